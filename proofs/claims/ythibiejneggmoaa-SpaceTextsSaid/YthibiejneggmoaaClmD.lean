/- ClmD: ClmIs, ClmD. -/
import Derived.Test.YthibiejneggmoaaSxArr
import Derived.Test.YthibiejneggmoaaClmL
import Derived.Test.YthibiejneggmoaaSxAny
namespace Go.Proofs.Ythibiejneggmoaa
section
open Go Go.RowKit
theorem is8b : IsArrB 45 8 := ⟨Try.underlying45, by kernel_rfl⟩
theorem is2b : IsArrB 46 2 := ⟨Try.underlying46, by kernel_rfl⟩
theorem is16 : IsArr 34 16 := ⟨Try.underlying34, by kernel_rfl⟩
theorem is8 : IsArr 37 8 := ⟨Try.underlying37, by kernel_rfl⟩
theorem is2 : IsArr 47 2 := ⟨Try.underlying47, by kernel_rfl⟩
end
section
open Go Go.RowKit Go.BigFrame
theorem isNode_any (n : Int) (w : World) : Gives Try.prog 25 #[.int .i64 n] w (.bool (nodeI n)) := by
  unfold Gives
  by_cases q0 : 0 ≤ n <;> by_cases q1 : n < 8
  all_goals try (exfalso; omega)
  all_goals first | (have H : Hid (nodeI n = true) := Lib.hid (by simp [nodeI]; omega)) | (have H : Hid (nodeI n = false) := Lib.hid (by simp [nodeI]; omega))
  all_goals
    go_enter Try.func25, Try.ntmps25
    go_wp2
    all_goals go_ret
    all_goals exact ⟨by rw [H.out]; rfl, Later.ex (by repeat (first | exact ext_refl _ | refine ext_alloc ?_ _ | refine ext_later ?_ _ | refine ext_drew ?_ | refine ext_drewN ?_ _))⟩
theorem isNode_d (n : Int) : Does Try.prog 25 #[.int .i64 n] [] (.bool (nodeI n)) [] := Does.of_any fun w => isNode_any n w
theorem ownI_yes {x : Int} (h : nodeI x = true) : ownI x = x := if_pos (by simpa [nodeI] using h)
theorem ownI_no {x : Int} (h : ¬ nodeI x = true) : ownI x = -1 := if_neg (by simpa [nodeI] using h)
theorem own_el (now : List Int) : ∀ x ∈ ownL now, x = -1 ∨ (0 ≤ x ∧ x < 8) := fun x hx => by
  obtain ⟨p, _, rfl⟩ := List.mem_map.1 hx
  rcases ownI_range (atL now p) with h | h
  · exact .inl h
  · exact .inr ⟨h.1, h.2.1⟩
theorem need_hit {L : Int → Int} {k : Nat} (h : (needK L k).2 < L (k : Nat)) : needK L (k + 1) = (((k : Nat) : Int), L (k : Nat)) := if_pos h
theorem need_miss {L : Int → Int} {k : Nat} (h : ¬ (needK L k).2 < L (k : Nat)) : needK L (k + 1) = needK L k := if_neg h
set_option maxHeartbeats 4000000 in
set_option maxRecDepth 100000 in
theorem number_d (R : At) (v : Value) (l : List Int) (k : Nat) (hR : ∀ W H, R.p W H → RowAt elemI W v l) : Does Try.prog 26 #[v, .int .i64 (k : Int)] [R] (.int .i64 (atL l k)) [R] := by
  intro w H hp
  have HM0 := Lib.hid (mem_refl hp)
  clear hp
  obtain ⟨p, cap, rfl, -⟩ := (HM0.out.row 0 rfl hR).form
  go_enter Try.func26, Try.ntmps26
  refine wp_seq ?_
  refine wp_region_N [(0, 1)] (by kernel_rfl) ?_
  refine wpS_this [0] rfl (by kernel_rfl) (by simp only [pickL, nthL, List.cons_append, List.nil_append]; rfl) ?_
  repeat (go_big_quiet_step (fail))
  refine wpQuiet_nil ?_
  refine wpS_nil ?_
  refine then_normal ?_
  refine wp_seq ?_
  refine wp_seq ?_
  by_cases hk : k < l.length
  · obtain ⟨y, hy⟩ : ∃ y, l[k]? = some y := ⟨_, List.getElem?_eq_getElem hk⟩
    have hat : Hid (atL l k = y) := Lib.hid (atL_of hy)
    have g1 : decide (l.length ≤ k) = false := decide_eq_false (by omega)
    refine wp_region_N [(0, 1), (1, 1), (2, 1), (3, 1)] (by kernel_rfl) ?_
    refine wpS_this [0, 1, 2, 3] rfl (by kernel_rfl) (by simp only [pickL, nthL, List.cons_append, List.nil_append]; rfl) ?_
    repeat (go_big_quiet_step (fail))
    refine wpQuiet_nil ?_
    refine wpS_nil ?_
    refine then_normal ?_
    refine wp_cond_false rfl ?_
    refine wp_skip ?_
    refine then_normal ?_
    refine wp_seq ?_
    refine wp_region_N [(0, 1), (1, 1), (2, 1), (3, 1), (4, 1)] (by kernel_rfl) ?_
    refine wpS_this [0, 1] rfl (by kernel_rfl) (by simp only [pickL, nthL, List.cons_append, List.nil_append]; rfl) ?_
    repeat (go_big_quiet_step (fail))
    refine wpQuiet_nil ?_
    refine wpS_index (E := elemI) (i := 2) (d := some 11) rfl (by rfl) rfl rfl rfl (HM0.out.row 0 rfl hR) (hy) rfl ?_
    intro eb1 eo2 hc3
    simp only [Act.put, List.setIfInBounds_toArray, List.set_cons_succ, List.set_cons_zero]
    refine wpS_load1 (i := 3) (d := some 12) (u := .int .i64 y) rfl (by rfl) rfl rfl (hc3 0 _ rfl) Try.underlying3 rfl rfl ?_
    simp only [Act.put, List.setIfInBounds_toArray, List.set_cons_succ, List.set_cons_zero]
    refine wpS_this [4] rfl (by kernel_rfl) (by simp only [pickL, nthL, List.cons_append, List.nil_append]; rfl) ?_
    repeat (go_big_quiet_step (fail))
    refine wpQuiet_nil ?_
    refine wpS_nil ?_
    refine then_normal ?_
    refine wp_ret ?_
    refine bodyPost_ret (results_tmp rfl _ _ _) rfl ?_
    rw [hat.out]
    exact does_ret (Mem.only (M := [_]) HM0.out [0] rfl) rfl rfl
  · have hat : Hid (atL l k = -1) := Lib.hid (atL_out (by omega))
    have g1 : decide (l.length ≤ k) = true := decide_eq_true (by omega)
    refine wp_region_N [(0, 1), (1, 1), (2, 1), (3, 1)] (by kernel_rfl) ?_
    refine wpS_this [0, 1, 2, 3] rfl (by kernel_rfl) (by simp only [pickL, nthL, List.cons_append, List.nil_append]; rfl) ?_
    repeat (go_big_quiet_step (fail))
    refine wpQuiet_nil ?_
    refine wpS_nil ?_
    refine then_normal ?_
    refine wp_cond_true rfl ?_
    refine wp_seq ?_
    refine wp_region_N [(0, 1)] (by kernel_rfl) ?_
    refine wpS_this [0] rfl (by kernel_rfl) (by simp only [pickL, nthL, List.cons_append, List.nil_append]; rfl) ?_
    repeat (go_big_quiet_step (fail))
    refine wpQuiet_nil ?_
    refine wpS_nil ?_
    refine then_normal ?_
    refine wp_ret ?_
    refine then_ret ?_
    refine bodyPost_ret (results_tmp rfl _ _ _) rfl ?_
    rw [hat.out]
    exact does_ret (Mem.only (M := [_]) HM0.out [0] rfl) rfl rfl
set_option maxHeartbeats 4000000 in
set_option maxRecDepth 100000 in
theorem owners_d (R : At) (v : Value) (now : List Int) (hR : ∀ W H, R.p W H → RowAt elemI W v now) : Does Try.prog 21 #[v] [R] (aV (ownL now)) [R] := by
  intro w H hp
  have HM0 := Lib.hid (mem_refl hp)
  clear hp
  go_enter Try.func21, Try.ntmps21
  refine wp_seq ?_
  refine wp_region_N [(0, 3)] (by kernel_rfl) ?_
  refine wpS_alloc (i := 0) (dd := 2) (z := aV (List.replicate 16 0)) (cs := (((List.replicate 16 0) : List Int).map iV).toArray) rfl (by rfl) rfl (by kernel_rfl) rfl HM0.out covS_nil rfl ?_
  rintro rb W2 hm1 -
  have HM3 := Lib.hid hm1
  clear hm1
  simp only [Act.put, List.setIfInBounds_toArray, List.set_cons_succ, List.set_cons_zero]
  refine wpS_nil ?_
  refine then_normal ?_
  refine wp_seq ?_
  refine wp_region_N [(0, 3)] (by kernel_rfl) ?_
  refine wpS_alloc (i := 0) (dd := 3) (z := aV (List.replicate 16 0)) (cs := (((List.replicate 16 0) : List Int).map iV).toArray) rfl (by rfl) rfl (by kernel_rfl) rfl HM3.out covS_nil rfl ?_
  rintro ob W5 hm4 -
  have HM6 := Lib.hid hm4
  clear hm4
  simp only [Act.put, List.setIfInBounds_toArray, List.set_cons_succ, List.set_cons_zero]
  refine wpS_nil ?_
  refine then_normal ?_
  refine wp_seq ?_
  refine wp_seq ?_
  refine wp_region_N [(0, 1)] (by kernel_rfl) ?_
  refine wpS_this [0] rfl (by kernel_rfl) (by simp only [pickL, nthL, List.cons_append, List.nil_append]; rfl) ?_
  repeat (go_big_quiet_step (fail))
  refine wpQuiet_nil ?_
  refine wpS_nil ?_
  refine then_normal ?_
  refine wp_block ?_
  refine wp_loop_F [4, 5, 6, 7, 8, 9, 10, 11, 12, 13, 14, 15, 16, 17, 18, 19] (fun n vs W' => ∃ k : Nat, n = 16 - k ∧ vs 6 = .int .i64 (k : Int) ∧ k ≤ 16 ∧ Mem [R, arrT rb 34 (List.replicate 16 0), arrT ob 34 (ownK now k)] H w W') (n0 := 16) ?_ ?_
  · exact ⟨0, rfl, rfl, Nat.zero_le _, (Mem.only (M := [_, _, _]) HM6.out [2, 1, 0] rfl)⟩
  rintro n vs W' ⟨k, rfl, e6, hk, hm⟩
  simp only [putAll, List.map_cons, List.map_nil, Act.put, List.setIfInBounds_toArray, List.set_cons_succ, List.set_cons_zero]
  rw [e6]
  clear e6
  have HM7 := Lib.hid hm
  clear hm
  refine wp_seq ?_
  refine wp_region_N [(0, 1)] (by kernel_rfl) ?_
  refine wpS_this [0] rfl (by kernel_rfl) (by simp only [pickL, nthL, List.cons_append, List.nil_append]; rfl) ?_
  repeat (go_big_quiet_step (fail))
  refine wpQuiet_nil ?_
  refine wpS_nil ?_
  refine then_normal ?_
  refine wp_seq ?_
  refine wp_cond_split rfl (fun h8 => ?_) (fun h8 => ?_)
  · have hk1 : k + 1 ≤ 16 := by have : (k : Int) < ((16 : Nat) : Int) := (by simpa using h8); omega
    clear h8
    refine wp_skip ?_
    refine then_normal ?_
    refine wp_seq ?_
    refine wp_block ?_
    refine wp_seq ?_
    refine wp_region_N [(0, 1), (1, 1)] (by kernel_rfl) ?_
    refine wpS_this [0, 1] rfl (by kernel_rfl) (by simp only [pickL, nthL, List.cons_append, List.nil_append]; rfl) ?_
    repeat (go_big_quiet_step (fail))
    refine wpQuiet_nil ?_
    refine wpS_nil ?_
    refine then_normal ?_
    refine wp_seq ?_
    refine wp_region_N [(0, 1), (1, 1), (2, 3)] (by kernel_rfl) ?_
    refine wpS_this [0] rfl (by kernel_rfl) (by simp only [pickL, nthL, List.cons_append, List.nil_append]; rfl) ?_
    repeat (go_big_quiet_step (fail))
    refine wpQuiet_nil ?_
    refine wpS_addrArr (i := 1) (d := some 10) (b := ob) (j := k) is16 rfl (by rfl) rfl rfl rfl (by omega) rfl ?_
    simp only [Act.put, List.setIfInBounds_toArray, List.set_cons_succ, List.set_cons_zero]
    refine wpS_setEl (i := 2) (z := (-1)) (L2 := [_, _]) rfl (by rfl) rfl rfl rfl HM7.out 2 rfl rfl (by rw [ownK_len now hk]; omega) covS_nil rfl ?_
    rintro W10 hm9 -
    have HM11 := Lib.hid hm9
    clear hm9
    refine wpS_nil ?_
    refine then_normal ?_
    refine wp_seq ?_
    refine wp_region_N [(0, 1), (1, 1), (2, 3), (3, 1)] (by kernel_rfl) ?_
    refine wpS_this [0, 1] rfl (by kernel_rfl) (by simp only [pickL, nthL, List.cons_append, List.nil_append]; rfl) ?_
    repeat (go_big_quiet_step (fail))
    refine wpQuiet_nil ?_
    refine wpS_does2 (i := 2) (d := some 13) (rem := [_, _]) (out := [_, _, _]) rfl (by rfl) rfl Try.call26 (number_d R v now k hR) rfl rfl HM11.out [1] rfl covS_nil rfl rfl ?_
    rintro W13 hm12 -
    have HM14 := Lib.hid hm12
    clear hm12
    simp only [Act.put, List.setIfInBounds_toArray, List.set_cons_succ, List.set_cons_zero]
    refine wpS_this [3] rfl (by kernel_rfl) (by simp only [pickL, nthL, List.cons_append, List.nil_append]; rfl) ?_
    repeat (go_big_quiet_step (fail))
    refine wpQuiet_nil ?_
    refine wpS_nil ?_
    refine then_normal ?_
    refine wp_seq ?_
    refine wp_region_N [(0, 1), (1, 3)] (by kernel_rfl) ?_
    refine wpS_this [0] rfl (by kernel_rfl) (by simp only [pickL, nthL, List.cons_append, List.nil_append]; rfl) ?_
    repeat (go_big_quiet_step (fail))
    refine wpQuiet_nil ?_
    refine wpS_does1 (i := 1) (d := some 15) (rem := [_, _, _]) (out := [_, _, _]) rfl (by rfl) rfl Try.call25 (isNode_d (atL now k)) rfl HM14.out [] rfl covS_nil rfl rfl ?_
    rintro W16 hm15 -
    have HM17 := Lib.hid hm15
    clear hm15
    simp only [Act.put, List.setIfInBounds_toArray, List.set_cons_succ, List.set_cons_zero]
    refine wpS_nil ?_
    refine then_normal ?_
    refine wp_cond_split rfl (fun h18 => ?_) (fun h18 => ?_)
    · have h7 := Lib.hid h18
      clear h18
      refine wp_region_N [(0, 1), (1, 1), (2, 1), (3, 3)] (by kernel_rfl) ?_
      refine wpS_this [0, 1] rfl (by kernel_rfl) (by simp only [pickL, nthL, List.cons_append, List.nil_append]; rfl) ?_
      repeat (go_big_quiet_step (fail))
      refine wpQuiet_nil ?_
      refine wpS_addrArr (i := 2) (d := some 18) (b := ob) (j := k) is16 rfl (by rfl) rfl rfl rfl (by omega) rfl ?_
      simp only [Act.put, List.setIfInBounds_toArray, List.set_cons_succ, List.set_cons_zero]
      refine wpS_setEl (i := 3) (z := (atL now k)) (L2 := [_, _]) rfl (by rfl) rfl rfl rfl HM17.out 1 rfl rfl (by rw [List.length_set, ownK_len now hk]; omega) covS_nil rfl ?_
      rintro W20 hm19 -
      rw [List.set_set] at hm19
      have HM21 := Lib.hid hm19
      clear hm19
      refine wpS_nil ?_
      refine block_normal ?_
      refine then_normal ?_
      refine wp_region_N [(0, 1), (1, 1)] (by kernel_rfl) ?_
      refine wpS_this [0, 1] rfl (by kernel_rfl) (by simp only [pickL, nthL, List.cons_append, List.nil_append]; rfl) ?_
      repeat (go_big_quiet_step (fail))
      refine wpQuiet_nil ?_
      refine wpS_nil ?_
      refine then_normal ?_
      refine ⟨by kernel_rfl, ?_⟩
      refine ⟨16 - (k + 1), by omega, k + 1, rfl, rfl, hk1, ?_⟩
      rw [ownK_step now (by omega), ownI_yes h7.out]
      exact (Mem.only (M := [_, _, _]) HM21.out [1, 1, 0] rfl)
    · have h7 : Hid (¬ nodeI (atL now k) = true) := Lib.hid (by simpa using h18)
      clear h18
      refine wp_skip ?_
      refine block_normal ?_
      refine then_normal ?_
      refine wp_region_N [(0, 1), (1, 1)] (by kernel_rfl) ?_
      refine wpS_this [0, 1] rfl (by kernel_rfl) (by simp only [pickL, nthL, List.cons_append, List.nil_append]; rfl) ?_
      repeat (go_big_quiet_step (fail))
      refine wpQuiet_nil ?_
      refine wpS_nil ?_
      refine then_normal ?_
      refine ⟨by kernel_rfl, ?_⟩
      refine ⟨16 - (k + 1), by omega, k + 1, rfl, rfl, hk1, ?_⟩
      rw [ownK_step now (by omega), ownI_no h7.out]
      exact (Mem.only (M := [_, _, _]) HM17.out [0, 1, 0] rfl)
  · have hkn : k = 16 := by have : ¬ (k : Int) < 16 := (by simpa using h8); omega
    clear h8
    subst hkn
    refine wp_exit ?_
    refine then_exit (then_exit (block_exit ?_))
    refine then_normal ?_
    refine wp_seq ?_
    refine wp_region_N [(0, 1), (1, 3)] (by kernel_rfl) ?_
    refine wpS_loadArr (i := 0) (d := some 20) is16 rfl (by rfl) rfl rfl HM7.out 2 rfl (ownK_len now (Nat.le_refl 16)) rfl ?_
    simp only [Act.put, List.setIfInBounds_toArray, List.set_cons_succ, List.set_cons_zero]
    refine wpS_storeArr (i := 1) (L2 := [_, _]) is16 rfl (by rfl) rfl rfl rfl HM7.out 1 rfl rfl (List.length_replicate) (ownK_len now (Nat.le_refl 16)) covS_nil rfl ?_
    rintro W23 hm22 -
    have HM24 := Lib.hid hm22
    clear hm22
    refine wpS_nil ?_
    refine then_normal ?_
    refine wp_ret ?_
    refine ret_arr rfl is16 HM24.out 0 rfl rfl (ownK_len now (Nat.le_refl 16)) rfl ?_
    exact does_ret (Mem.only (M := [_]) HM24.out [1] rfl) (by rw [ownK_end]) rfl
set_option maxHeartbeats 4000000 in
set_option maxRecDepth 100000 in
theorem counts_d (O : List Int) (hO : O.length = 16) (hel : ∀ x ∈ O, x = -1 ∨ (0 ≤ x ∧ x < 8)) : Does Try.prog 27 #[aV O] [] (aV (tabN (cntK O 16))) [] := by
  intro w H hp
  have HM0 := Lib.hid (mem_refl hp)
  clear hp
  go_enter Try.func27, Try.ntmps27
  refine wp_seq ?_
  refine wp_region_N [(0, 3), (1, 3)] (by kernel_rfl) ?_
  refine wpS_boxA (i := 0) (dd := 1) rfl (by rfl) rfl rfl HM0.out covS_nil rfl ?_
  rintro ib W2 hm1 -
  have HM3 := Lib.hid hm1
  clear hm1
  simp only [Act.put, List.setIfInBounds_toArray, List.set_cons_succ, List.set_cons_zero]
  refine wpS_alloc (i := 1) (dd := 2) (z := aV (List.replicate 8 0)) (cs := (((List.replicate 8 0) : List Int).map iV).toArray) rfl (by rfl) rfl (by kernel_rfl) rfl HM3.out covS_nil rfl ?_
  rintro rb W5 hm4 -
  have HM6 := Lib.hid hm4
  clear hm4
  simp only [Act.put, List.setIfInBounds_toArray, List.set_cons_succ, List.set_cons_zero]
  refine wpS_nil ?_
  refine then_normal ?_
  refine wp_seq ?_
  refine wp_region_N [(0, 3)] (by kernel_rfl) ?_
  refine wpS_alloc (i := 0) (dd := 3) (z := aV (List.replicate 8 0)) (cs := (((List.replicate 8 0) : List Int).map iV).toArray) rfl (by rfl) rfl (by kernel_rfl) rfl HM6.out covS_nil rfl ?_
  rintro cb W8 hm7 -
  have HM9 := Lib.hid hm7
  clear hm7
  simp only [Act.put, List.setIfInBounds_toArray, List.set_cons_succ, List.set_cons_zero]
  refine wpS_nil ?_
  refine then_normal ?_
  refine wp_seq ?_
  refine wp_seq ?_
  refine wp_region_N [(0, 1), (1, 1)] (by kernel_rfl) ?_
  refine wpS_loadArr (i := 0) (d := some 6) is16 rfl (by rfl) rfl rfl HM9.out 2 rfl (hO) rfl ?_
  simp only [Act.put, List.setIfInBounds_toArray, List.set_cons_succ, List.set_cons_zero]
  refine wpS_this [1] rfl (by kernel_rfl) (by simp only [pickL, nthL, List.cons_append, List.nil_append]; rfl) ?_
  repeat (go_big_quiet_step (fail))
  refine wpQuiet_nil ?_
  refine wpS_nil ?_
  refine then_normal ?_
  refine wp_block ?_
  refine wp_loop_F [5, 7, 8, 9, 10, 11, 12, 13, 14, 15, 16, 17] (fun n vs W' => ∃ k : Nat, n = 16 - k ∧ vs 7 = .int .i64 (k : Int) ∧ k ≤ 16 ∧ Mem [arrT ib 34 O, arrT rb 37 (List.replicate 8 0), arrT cb 37 (tabN (cntK O k))] H w W') (n0 := 16) ?_ ?_
  · refine ⟨0, rfl, rfl, Nat.zero_le _, ?_⟩
    rw [cntK_zero]
    exact (Mem.only (M := [_, _, _]) HM9.out [2, 1, 0] rfl)
  rintro n vs W' ⟨k, rfl, e7, hk, hm⟩
  simp only [putAll, List.map_cons, List.map_nil, Act.put, List.setIfInBounds_toArray, List.set_cons_succ, List.set_cons_zero]
  rw [e7]
  clear e7
  have HM10 := Lib.hid hm
  clear hm
  refine wp_seq ?_
  refine wp_region_N [(0, 1)] (by kernel_rfl) ?_
  refine wpS_this [0] rfl (by kernel_rfl) (by simp only [pickL, nthL, List.cons_append, List.nil_append]; rfl) ?_
  repeat (go_big_quiet_step (fail))
  refine wpQuiet_nil ?_
  refine wpS_nil ?_
  refine then_normal ?_
  refine wp_seq ?_
  refine wp_cond_split rfl (fun h11 => ?_) (fun h11 => ?_)
  · have hk1 : k + 1 ≤ 16 := by have : (k : Int) < ((16 : Nat) : Int) := (by simpa using h11); omega
    clear h11
    obtain ⟨x, hx'⟩ : ∃ y, O[k]? = some y := ⟨_, List.getElem?_eq_getElem (by omega)⟩
    have hxr := hel x (List.mem_of_getElem? hx')
    have hx := Lib.hid hx'
    clear hx'
    refine wp_skip ?_
    refine then_normal ?_
    refine wp_seq ?_
    refine wp_block ?_
    refine wp_seq ?_
    refine wp_region_N [(0, 1), (1, 1)] (by kernel_rfl) ?_
    refine wpS_indexArr (i := 0) (d := some 9) (j := k) is16 rfl (by rfl) rfl rfl rfl (hx.out) (hO) rfl ?_
    simp only [Act.put, List.setIfInBounds_toArray, List.set_cons_succ, List.set_cons_zero]
    refine wpS_this [1] rfl (by kernel_rfl) (by simp only [pickL, nthL, List.cons_append, List.nil_append]; rfl) ?_
    repeat (go_big_quiet_step (fail))
    refine wpQuiet_nil ?_
    refine wpS_nil ?_
    refine then_normal ?_
    refine wp_seq ?_
    rcases hxr with hx1 | ⟨hx0, hx8⟩
    · subst hx1
      refine wp_region_N [(0, 1), (1, 1)] (by kernel_rfl) ?_
      refine wpS_this [0, 1] rfl (by kernel_rfl) (by simp only [pickL, nthL, List.cons_append, List.nil_append]; rfl) ?_
      repeat (go_big_quiet_step (fail))
      refine wpQuiet_nil ?_
      refine wpS_nil ?_
      refine then_normal ?_
      refine wp_cond_false rfl ?_
      refine wp_skip ?_
      refine block_normal ?_
      refine then_normal ?_
      refine wp_region_N [(0, 1), (1, 1)] (by kernel_rfl) ?_
      refine wpS_this [0, 1] rfl (by kernel_rfl) (by simp only [pickL, nthL, List.cons_append, List.nil_append]; rfl) ?_
      repeat (go_big_quiet_step (fail))
      refine wpQuiet_nil ?_
      refine wpS_nil ?_
      refine then_normal ?_
      refine ⟨by kernel_rfl, ?_⟩
      refine ⟨16 - (k + 1), by omega, k + 1, rfl, rfl, hk1, ?_⟩
      rw [cntK_miss hx.out (.inl (by omega))]
      exact (Mem.only (M := [_, _, _]) HM10.out [0, 0, 0] rfl)
    · obtain ⟨j, rfl⟩ : ∃ j : Nat, x = (j : Int) := ⟨x.toNat, by omega⟩
      have g1 : ((j : Int) != -1) = true := bne_iff_ne.2 (by omega)
      obtain ⟨c, hc'⟩ : ∃ z : Int, cntK O k (j : Int) = z := ⟨_, rfl⟩
      have hcr := cntK_range O k (j : Int)
      rw [hc'] at hcr
      obtain ⟨hc0, hc1⟩ := hcr
      have hc := Lib.hid hc'
      clear hc'
      refine wp_region_N [(0, 1), (1, 1)] (by kernel_rfl) ?_
      refine wpS_this [0, 1] rfl (by kernel_rfl) (by simp only [pickL, nthL, List.cons_append, List.nil_append]; rfl) ?_
      repeat (go_big_quiet_step (fail))
      refine wpQuiet_nil ?_
      refine wpS_nil ?_
      refine then_normal ?_
      refine wp_cond_true rfl ?_
      refine wp_region_N [(0, 1), (1, 1), (2, 1), (3, 1), (4, 1), (5, 3)] (by kernel_rfl) ?_
      refine wpS_this [0] rfl (by kernel_rfl) (by simp only [pickL, nthL, List.cons_append, List.nil_append]; rfl) ?_
      repeat (go_big_quiet_step (fail))
      refine wpQuiet_nil ?_
      refine wpS_addrArr (i := 1) (d := some 13) (b := cb) (j := j) is8 rfl (by rfl) rfl rfl rfl (by omega) rfl ?_
      simp only [Act.put, List.setIfInBounds_toArray, List.set_cons_succ, List.set_cons_zero]
      refine wpS_loadEl (i := 2) (d := some 14) (y := c) rfl (by rfl) rfl rfl (HM10.out.arr 2 rfl (by rw [tabN_at _ (by omega), hc.out])) rfl ?_
      simp only [Act.put, List.setIfInBounds_toArray, List.set_cons_succ, List.set_cons_zero]
      refine wpS_this [3] rfl (by kernel_rfl) (by simp only [pickL, nthL, List.cons_append, List.nil_append]; rfl) ?_
      repeat (go_big_quiet_step (fail))
      refine wpQuiet_nil ?_
      refine wpS_addrArr (i := 4) (d := some 16) (b := cb) (j := j) is8 rfl (by rfl) rfl rfl rfl (by omega) rfl ?_
      simp only [Act.put, List.setIfInBounds_toArray, List.set_cons_succ, List.set_cons_zero]
      refine wpS_setEl (i := 5) (z := (c + 1)) (L2 := [_, _]) rfl (by rfl) rfl rfl rfl HM10.out 2 rfl rfl (by rw [tabN_len]; omega) covS_nil rfl ?_
      rintro W13 hm12 -
      have HM14 := Lib.hid hm12
      clear hm12
      refine wpS_nil ?_
      refine block_normal ?_
      refine then_normal ?_
      refine wp_region_N [(0, 1), (1, 1)] (by kernel_rfl) ?_
      refine wpS_this [0, 1] rfl (by kernel_rfl) (by simp only [pickL, nthL, List.cons_append, List.nil_append]; rfl) ?_
      repeat (go_big_quiet_step (fail))
      refine wpQuiet_nil ?_
      refine wpS_nil ?_
      refine then_normal ?_
      refine ⟨by kernel_rfl, ?_⟩
      refine ⟨16 - (k + 1), by omega, k + 1, rfl, rfl, hk1, ?_⟩
      rw [cntK_hit hx.out (by omega), hc.out]
      exact (Mem.only (M := [_, _, _]) HM14.out [1, 1, 0] rfl)
  · have hkn : k = 16 := by have : ¬ (k : Int) < 16 := (by simpa using h11); omega
    clear h11
    subst hkn
    refine wp_exit ?_
    refine then_exit (then_exit (block_exit ?_))
    refine then_normal ?_
    refine wp_seq ?_
    refine wp_region_N [(0, 1), (1, 3)] (by kernel_rfl) ?_
    refine wpS_loadArr (i := 0) (d := some 18) is8 rfl (by rfl) rfl rfl HM10.out 2 rfl (tabN_len _) rfl ?_
    simp only [Act.put, List.setIfInBounds_toArray, List.set_cons_succ, List.set_cons_zero]
    refine wpS_storeArr (i := 1) (L2 := [_, _]) is8 rfl (by rfl) rfl rfl rfl HM10.out 1 rfl rfl (List.length_replicate) (tabN_len _) covS_nil rfl ?_
    rintro W16 hm15 -
    have HM17 := Lib.hid hm15
    clear hm15
    refine wpS_nil ?_
    refine then_normal ?_
    refine wp_ret ?_
    refine ret_arr rfl is8 HM17.out 0 rfl rfl (tabN_len _) rfl ?_
    exact does_ret (Mem.only (M := []) HM17.out [] rfl) rfl rfl
set_option maxHeartbeats 4000000 in
set_option maxRecDepth 100000 in
theorem need_d (l : List Int) (L : Int → Int) (hl : l = tabN L) : Does Try.prog 28 #[aV l] [] (.int .i64 (needI L)) [] := by
  intro w H hp
  have HM0 := Lib.hid (mem_refl hp)
  clear hp
  go_enter Try.func28, Try.ntmps28
  refine wp_seq ?_
  refine wp_region_N [(0, 3), (1, 1)] (by kernel_rfl) ?_
  refine wpS_boxA (i := 0) (dd := 1) rfl (by rfl) rfl rfl HM0.out covS_nil rfl ?_
  rintro ib W2 hm1 -
  have HM3 := Lib.hid hm1
  clear hm1
  simp only [Act.put, List.setIfInBounds_toArray, List.set_cons_succ, List.set_cons_zero]
  refine wpS_this [1] rfl (by kernel_rfl) (by simp only [pickL, nthL, List.cons_append, List.nil_append]; rfl) ?_
  repeat (go_big_quiet_step (fail))
  refine wpQuiet_nil ?_
  refine wpS_nil ?_
  refine then_normal ?_
  refine wp_seq ?_
  refine wp_region_N [(0, 1), (1, 1)] (by kernel_rfl) ?_
  refine wpS_this [0, 1] rfl (by kernel_rfl) (by simp only [pickL, nthL, List.cons_append, List.nil_append]; rfl) ?_
  repeat (go_big_quiet_step (fail))
  refine wpQuiet_nil ?_
  refine wpS_nil ?_
  refine then_normal ?_
  refine wp_seq ?_
  refine wp_seq ?_
  refine wp_region_N [(0, 1), (1, 1)] (by kernel_rfl) ?_
  refine wpS_loadArr (i := 0) (d := some 7) is8 rfl (by rfl) rfl rfl HM3.out 0 rfl (by rw [hl]; exact tabN_len L) rfl ?_
  simp only [Act.put, List.setIfInBounds_toArray, List.set_cons_succ, List.set_cons_zero]
  refine wpS_this [1] rfl (by kernel_rfl) (by simp only [pickL, nthL, List.cons_append, List.nil_append]; rfl) ?_
  repeat (go_big_quiet_step (fail))
  refine wpQuiet_nil ?_
  refine wpS_nil ?_
  refine then_normal ?_
  refine wp_block ?_
  refine wp_loop_F [3, 4, 5, 6, 8, 9, 10, 11, 12, 13, 14, 15, 16, 17] (fun n vs W' => ∃ k : Nat, n = 8 - k ∧ vs 8 = .int .i64 (k : Int) ∧ vs 3 = .int .i64 (needK L k).1 ∧ vs 4 = .int .i64 (needK L k).2 ∧ k ≤ 8 ∧ Mem [arrT ib 37 l] H w W') (n0 := 8) ?_ ?_
  · exact ⟨0, rfl, rfl, rfl, rfl, Nat.zero_le _, (Mem.only (M := [_]) HM3.out [0] rfl)⟩
  rintro n vs W' ⟨k, rfl, e8, e3, e4, hk, hm⟩
  simp only [putAll, List.map_cons, List.map_nil, Act.put, List.setIfInBounds_toArray, List.set_cons_succ, List.set_cons_zero]
  rw [e8, e3, e4]
  clear e8 e3 e4
  obtain ⟨fo, hfo'⟩ : ∃ z : Int, (needK L k).1 = z := ⟨_, rfl⟩
  rw [hfo']
  obtain ⟨mo, hmo'⟩ : ∃ z : Int, (needK L k).2 = z := ⟨_, rfl⟩
  rw [hmo']
  have hfo := Lib.hid hfo'
  clear hfo'
  have hmo := Lib.hid hmo'
  clear hmo'
  have HM4 := Lib.hid hm
  clear hm
  refine wp_seq ?_
  refine wp_region_N [(0, 1)] (by kernel_rfl) ?_
  refine wpS_this [0] rfl (by kernel_rfl) (by simp only [pickL, nthL, List.cons_append, List.nil_append]; rfl) ?_
  repeat (go_big_quiet_step (fail))
  refine wpQuiet_nil ?_
  refine wpS_nil ?_
  refine then_normal ?_
  refine wp_seq ?_
  refine wp_cond_split rfl (fun h5 => ?_) (fun h5 => ?_)
  · have hk1 : k + 1 ≤ 8 := by have : (k : Int) < ((8 : Nat) : Int) := (by simpa using h5); omega
    clear h5
    obtain ⟨lv, hlv'⟩ : ∃ z : Int, L (k : Nat) = z := ⟨_, rfl⟩
    have hlv := Lib.hid hlv'
    clear hlv'
    refine wp_skip ?_
    refine then_normal ?_
    refine wp_seq ?_
    refine wp_block ?_
    refine wp_seq ?_
    refine wp_region_N [(0, 1), (1, 1), (2, 1), (3, 1)] (by kernel_rfl) ?_
    refine wpS_this [0] rfl (by kernel_rfl) (by simp only [pickL, nthL, List.cons_append, List.nil_append]; rfl) ?_
    repeat (go_big_quiet_step (fail))
    refine wpQuiet_nil ?_
    refine wpS_indexArr (i := 1) (d := some 11) (j := k) is8 rfl (by rfl) rfl rfl rfl (by rw [hl, tabN_at L (by omega), hlv.out]) (by rw [hl]; exact tabN_len L) rfl ?_
    simp only [Act.put, List.setIfInBounds_toArray, List.set_cons_succ, List.set_cons_zero]
    refine wpS_this [2, 3] rfl (by kernel_rfl) (by simp only [pickL, nthL, List.cons_append, List.nil_append]; rfl) ?_
    repeat (go_big_quiet_step (fail))
    refine wpQuiet_nil ?_
    refine wpS_nil ?_
    refine then_normal ?_
    refine wp_seq ?_
    refine wp_region_N [(0, 1), (1, 1), (2, 1)] (by kernel_rfl) ?_
    refine wpS_this [0, 1, 2] rfl (by kernel_rfl) (by simp only [pickL, nthL, List.cons_append, List.nil_append]; rfl) ?_
    repeat (go_big_quiet_step (fail))
    refine wpQuiet_nil ?_
    refine wpS_nil ?_
    refine then_normal ?_
    refine wp_cond_split rfl (fun h6 => ?_) (fun h6 => ?_)
    · have h5 : Hid (mo < lv) := Lib.hid (by simpa using h6)
      clear h6
      refine wp_region_N [(0, 1), (1, 1), (2, 1), (3, 1)] (by kernel_rfl) ?_
      refine wpS_this [0, 1, 2, 3] rfl (by kernel_rfl) (by simp only [pickL, nthL, List.cons_append, List.nil_append]; rfl) ?_
      repeat (go_big_quiet_step (fail))
      refine wpQuiet_nil ?_
      refine wpS_nil ?_
      refine block_normal ?_
      refine then_normal ?_
      refine wp_region_N [(0, 1), (1, 1)] (by kernel_rfl) ?_
      refine wpS_this [0, 1] rfl (by kernel_rfl) (by simp only [pickL, nthL, List.cons_append, List.nil_append]; rfl) ?_
      repeat (go_big_quiet_step (fail))
      refine wpQuiet_nil ?_
      refine wpS_nil ?_
      refine then_normal ?_
      refine ⟨by kernel_rfl, ?_⟩
      have hn := need_hit (L := L) (k := k) (by rw [hmo.out, hlv.out]; exact h5.out)
      refine ⟨8 - (k + 1), by omega, k + 1, rfl, rfl, ?_, ?_, hk1, (Mem.only (M := [_]) HM4.out [0] rfl)⟩
      · rw [hn]
        rfl
      · rw [hn]
        exact congrArg (Value.int .i64) hlv.out.symm
    · have h5 : Hid (¬ mo < lv) := Lib.hid (by simpa using h6)
      clear h6
      refine wp_skip ?_
      refine block_normal ?_
      refine then_normal ?_
      refine wp_region_N [(0, 1), (1, 1)] (by kernel_rfl) ?_
      refine wpS_this [0, 1] rfl (by kernel_rfl) (by simp only [pickL, nthL, List.cons_append, List.nil_append]; rfl) ?_
      repeat (go_big_quiet_step (fail))
      refine wpQuiet_nil ?_
      refine wpS_nil ?_
      refine then_normal ?_
      refine ⟨by kernel_rfl, ?_⟩
      have hn := need_miss (L := L) (k := k) (by rw [hmo.out, hlv.out]; exact h5.out)
      refine ⟨8 - (k + 1), by omega, k + 1, rfl, rfl, ?_, ?_, hk1, (Mem.only (M := [_]) HM4.out [0] rfl)⟩
      · rw [hn]
        exact congrArg (Value.int .i64) hfo.out.symm
      · rw [hn]
        exact congrArg (Value.int .i64) hmo.out.symm
  · have hkn : k = 8 := by have : ¬ (k : Int) < 8 := (by simpa using h5); omega
    clear h5
    subst hkn
    refine wp_exit ?_
    refine then_exit (then_exit (block_exit ?_))
    refine then_normal ?_
    refine wp_seq ?_
    refine wp_region_N [(0, 1), (1, 1)] (by kernel_rfl) ?_
    refine wpS_this [0, 1] rfl (by kernel_rfl) (by simp only [pickL, nthL, List.cons_append, List.nil_append]; rfl) ?_
    repeat (go_big_quiet_step (fail))
    refine wpQuiet_nil ?_
    refine wpS_nil ?_
    refine then_normal ?_
    refine wp_ret ?_
    refine bodyPost_ret (results_tmp rfl _ _ _) rfl ?_
    exact does_ret (Mem.only (M := []) HM4.out [] rfl) (congrArg (Value.int .i64) hfo.out.symm) rfl
set_option maxHeartbeats 4000000 in
set_option maxRecDepth 100000 in
theorem taker_d (L : Int → Int) (a b : Int) (ha : a = -1 ∨ (0 ≤ a ∧ a < 8)) (hb : b = -1 ∨ (0 ≤ b ∧ b < 8)) : Does Try.prog 24 #[aV (tabN L), .int .i64 a, .int .i64 b] [] (.int .i64 (takeI L a b)) [] := by
  intro w H hp
  have HM0 := Lib.hid (mem_refl hp)
  clear hp
  go_enter Try.func24, Try.ntmps24
  refine wp_seq ?_
  refine wp_region_N [(0, 3), (1, 1)] (by kernel_rfl) ?_
  refine wpS_boxA (i := 0) (dd := 3) rfl (by rfl) rfl rfl HM0.out covS_nil rfl ?_
  rintro ib W2 hm1 -
  have HM3 := Lib.hid hm1
  clear hm1
  simp only [Act.put, List.setIfInBounds_toArray, List.set_cons_succ, List.set_cons_zero]
  refine wpS_this [1] rfl (by kernel_rfl) (by simp only [pickL, nthL, List.cons_append, List.nil_append]; rfl) ?_
  repeat (go_big_quiet_step (fail))
  refine wpQuiet_nil ?_
  refine wpS_nil ?_
  refine then_normal ?_
  refine wp_seq ?_
  refine wp_region_N [(0, 1), (1, 3), (2, 3)] (by kernel_rfl) ?_
  refine wpS_loadArr (i := 0) (d := some 11) is8 rfl (by rfl) rfl rfl HM3.out 0 rfl (tabN_len L) rfl ?_
  simp only [Act.put, List.setIfInBounds_toArray, List.set_cons_succ, List.set_cons_zero]
  refine wpS_alloc (i := 1) (dd := 7) (z := aV (List.replicate 8 0)) (cs := (((List.replicate 8 0) : List Int).map iV).toArray) rfl (by rfl) rfl (by kernel_rfl) rfl HM3.out covS_nil rfl ?_
  rintro cb W5 hm4 -
  have HM6 := Lib.hid hm4
  clear hm4
  simp only [Act.put, List.setIfInBounds_toArray, List.set_cons_succ, List.set_cons_zero]
  refine wpS_storeArr (i := 2) (L2 := [_]) is8 rfl (by rfl) rfl rfl rfl HM6.out 0 rfl rfl (List.length_replicate) (tabN_len L) covS_nil rfl ?_
  rintro W8 hm7 -
  have HM9 := Lib.hid hm7
  clear hm7
  refine wpS_nil ?_
  refine then_normal ?_
  refine wp_seq ?_
  refine wp_seq ?_
  refine wp_region_N [(0, 1), (1, 1), (2, 1), (3, 1)] (by kernel_rfl) ?_
  refine wpS_this [0, 1, 2, 3] rfl (by kernel_rfl) (by simp only [pickL, nthL, List.cons_append, List.nil_append]; rfl) ?_
  repeat (go_big_quiet_step (fail))
  refine wpQuiet_nil ?_
  refine wpS_nil ?_
  refine then_normal ?_
  refine wp_block ?_
  refine wp_loop_rounds 3 ?_
  refine rounds_step ?_
  refine wp_seq ?_
  refine wp_region_N [(0, 1)] (by kernel_rfl) ?_
  refine wpS_this [0] rfl (by kernel_rfl) (by simp only [pickL, nthL, List.cons_append, List.nil_append]; rfl) ?_
  repeat (go_big_quiet_step (fail))
  refine wpQuiet_nil ?_
  refine wpS_nil ?_
  refine then_normal ?_
  refine wp_seq ?_
  refine wp_cond_true rfl ?_
  refine wp_skip ?_
  refine then_normal ?_
  refine wp_seq ?_
  refine wp_block ?_
  refine wp_seq ?_
  refine wp_region_N [(0, 1), (1, 1)] (by kernel_rfl) ?_
  refine wpS_indexArr (i := 0) (d := some 17) (j := 0) (l := [a, b]) is2 rfl (by rfl) rfl rfl rfl (rfl) (rfl) rfl ?_
  simp only [Act.put, List.setIfInBounds_toArray, List.set_cons_succ, List.set_cons_zero]
  refine wpS_this [1] rfl (by kernel_rfl) (by simp only [pickL, nthL, List.cons_append, List.nil_append]; rfl) ?_
  repeat (go_big_quiet_step (fail))
  refine wpQuiet_nil ?_
  refine wpS_nil ?_
  refine then_normal ?_
  refine wp_seq ?_
  rcases ha with ha1 | ha1
  · subst ha1
    refine wp_region_N [(0, 1), (1, 1)] (by kernel_rfl) ?_
    refine wpS_this [0, 1] rfl (by kernel_rfl) (by simp only [pickL, nthL, List.cons_append, List.nil_append]; rfl) ?_
    repeat (go_big_quiet_step (fail))
    refine wpQuiet_nil ?_
    refine wpS_nil ?_
    refine then_normal ?_
    refine wp_cond_false rfl ?_
    refine wp_skip ?_
    refine block_normal ?_
    refine then_normal ?_
    refine wp_region_N [(0, 1), (1, 1)] (by kernel_rfl) ?_
    refine wpS_this [0, 1] rfl (by kernel_rfl) (by simp only [pickL, nthL, List.cons_append, List.nil_append]; rfl) ?_
    repeat (go_big_quiet_step (fail))
    refine wpQuiet_nil ?_
    refine wpS_nil ?_
    refine then_normal ?_
    refine rounds_step ?_
    refine wp_seq ?_
    refine wp_region_N [(0, 1)] (by kernel_rfl) ?_
    refine wpS_this [0] rfl (by kernel_rfl) (by simp only [pickL, nthL, List.cons_append, List.nil_append]; rfl) ?_
    repeat (go_big_quiet_step (fail))
    refine wpQuiet_nil ?_
    refine wpS_nil ?_
    refine then_normal ?_
    refine wp_seq ?_
    refine wp_cond_true rfl ?_
    refine wp_skip ?_
    refine then_normal ?_
    refine wp_seq ?_
    refine wp_block ?_
    refine wp_seq ?_
    refine wp_region_N [(0, 1), (1, 1)] (by kernel_rfl) ?_
    refine wpS_indexArr (i := 0) (d := some 17) (j := 1) (l := [(-1), b]) is2 rfl (by rfl) rfl rfl rfl (rfl) (rfl) rfl ?_
    simp only [Act.put, List.setIfInBounds_toArray, List.set_cons_succ, List.set_cons_zero]
    refine wpS_this [1] rfl (by kernel_rfl) (by simp only [pickL, nthL, List.cons_append, List.nil_append]; rfl) ?_
    repeat (go_big_quiet_step (fail))
    refine wpQuiet_nil ?_
    refine wpS_nil ?_
    refine then_normal ?_
    refine wp_seq ?_
    rcases hb with hb1 | hb1
    · subst hb1
      refine wp_region_N [(0, 1), (1, 1)] (by kernel_rfl) ?_
      refine wpS_this [0, 1] rfl (by kernel_rfl) (by simp only [pickL, nthL, List.cons_append, List.nil_append]; rfl) ?_
      repeat (go_big_quiet_step (fail))
      refine wpQuiet_nil ?_
      refine wpS_nil ?_
      refine then_normal ?_
      refine wp_cond_false rfl ?_
      refine wp_skip ?_
      refine block_normal ?_
      refine then_normal ?_
      refine wp_region_N [(0, 1), (1, 1)] (by kernel_rfl) ?_
      refine wpS_this [0, 1] rfl (by kernel_rfl) (by simp only [pickL, nthL, List.cons_append, List.nil_append]; rfl) ?_
      repeat (go_big_quiet_step (fail))
      refine wpQuiet_nil ?_
      refine wpS_nil ?_
      refine then_normal ?_
      refine rounds_step ?_
      refine wp_seq ?_
      refine wp_region_N [(0, 1)] (by kernel_rfl) ?_
      refine wpS_this [0] rfl (by kernel_rfl) (by simp only [pickL, nthL, List.cons_append, List.nil_append]; rfl) ?_
      repeat (go_big_quiet_step (fail))
      refine wpQuiet_nil ?_
      refine wpS_nil ?_
      refine then_normal ?_
      refine wp_seq ?_
      refine wp_cond_false rfl ?_
      refine wp_exit ?_
      refine then_exit (then_exit (block_exit ?_))
      refine then_normal ?_
      refine wp_seq ?_
      refine wp_seq ?_
      refine wp_region_N [(0, 1), (1, 3), (2, 1)] (by kernel_rfl) ?_
      refine wpS_loadArr (i := 0) (d := some 23) is8 rfl (by rfl) rfl rfl HM9.out 0 rfl (by simp [tabN_len]) rfl ?_
      simp only [Act.put, List.setIfInBounds_toArray, List.set_cons_succ, List.set_cons_zero]
      refine wpS_does1 (i := 1) (d := some 24) (rem := [_, _]) (out := [_, _]) rfl (by rfl) rfl Try.call28 (need_d (tabN L) (updI (updI L (-1) 0) (-1) 0) (by rw [tabN_out _ (.inl (by decide)), tabN_out _ (.inl (by decide))])) rfl HM9.out [] rfl covS_nil rfl rfl ?_
      rintro W11 hm10 -
      have HM12 := Lib.hid hm10
      clear hm10
      simp only [Act.put, List.setIfInBounds_toArray, List.set_cons_succ, List.set_cons_zero]
      refine wpS_this [2] rfl (by kernel_rfl) (by simp only [pickL, nthL, List.cons_append, List.nil_append]; rfl) ?_
      repeat (go_big_quiet_step (fail))
      refine wpQuiet_nil ?_
      refine wpS_nil ?_
      refine then_normal ?_
      refine wp_seq ?_
      refine wp_region_N [(0, 1), (1, 1)] (by kernel_rfl) ?_
      refine wpS_this [0, 1] rfl (by kernel_rfl) (by simp only [pickL, nthL, List.cons_append, List.nil_append]; rfl) ?_
      repeat (go_big_quiet_step (fail))
      refine wpQuiet_nil ?_
      refine wpS_nil ?_
      refine then_normal ?_
      refine wp_cond_split rfl (fun h13 => ?_) (fun h13 => ?_)
      · have h9 : Hid (needI (updI (updI L (-1) 0) (-1) 0) ≠ -1) := Lib.hid (by simpa using h13)
        clear h13
        refine wp_seq ?_
        refine wp_region_N [(0, 1), (1, 1)] (by kernel_rfl) ?_
        refine wpS_this [0, 1] rfl (by kernel_rfl) (by simp only [pickL, nthL, List.cons_append, List.nil_append]; rfl) ?_
        repeat (go_big_quiet_step (fail))
        refine wpQuiet_nil ?_
        refine wpS_nil ?_
        refine then_normal ?_
        refine wp_ret ?_
        refine then_ret ?_
        refine bodyPost_ret (results_tmp rfl _ _ _) rfl ?_
        unfold takeI
        rw [if_pos h9.out]
        exact does_ret (Mem.only (M := []) HM12.out [] rfl) rfl rfl
      · have h9 : Hid (¬ needI (updI (updI L (-1) 0) (-1) 0) ≠ -1) := Lib.hid (by simpa using h13)
        clear h13
        refine wp_skip ?_
        refine then_normal ?_
        refine wp_seq ?_
        refine wp_region_N [(0, 1), (1, 3), (2, 1)] (by kernel_rfl) ?_
        refine wpS_loadArr (i := 0) (d := some 28) is8 rfl (by rfl) rfl rfl HM12.out 1 rfl (tabN_len L) rfl ?_
        simp only [Act.put, List.setIfInBounds_toArray, List.set_cons_succ, List.set_cons_zero]
        refine wpS_does1 (i := 1) (d := some 29) (rem := [_, _]) (out := [_, _]) rfl (by rfl) rfl Try.call28 (need_d (tabN L) L rfl) rfl HM12.out [] rfl covS_nil rfl rfl ?_
        rintro W15 hm14 -
        have HM16 := Lib.hid hm14
        clear hm14
        simp only [Act.put, List.setIfInBounds_toArray, List.set_cons_succ, List.set_cons_zero]
        refine wpS_this [2] rfl (by kernel_rfl) (by simp only [pickL, nthL, List.cons_append, List.nil_append]; rfl) ?_
        repeat (go_big_quiet_step (fail))
        refine wpQuiet_nil ?_
        refine wpS_nil ?_
        refine then_normal ?_
        refine wp_ret ?_
        refine bodyPost_ret (results_tmp rfl _ _ _) rfl ?_
        unfold takeI
        rw [if_neg h9.out]
        exact does_ret (Mem.only (M := []) HM16.out [] rfl) rfl rfl
    · obtain ⟨jb, rfl⟩ : ∃ j : Nat, b = (j : Int) := ⟨b.toNat, by omega⟩
      have gb : ((jb : Int) != -1) = true := bne_iff_ne.2 (by omega)
      refine wp_region_N [(0, 1), (1, 1)] (by kernel_rfl) ?_
      refine wpS_this [0, 1] rfl (by kernel_rfl) (by simp only [pickL, nthL, List.cons_append, List.nil_append]; rfl) ?_
      repeat (go_big_quiet_step (fail))
      refine wpQuiet_nil ?_
      refine wpS_nil ?_
      refine then_normal ?_
      refine wp_cond_true rfl ?_
      refine wp_region_N [(0, 1), (1, 1), (2, 3)] (by kernel_rfl) ?_
      refine wpS_this [0] rfl (by kernel_rfl) (by simp only [pickL, nthL, List.cons_append, List.nil_append]; rfl) ?_
      repeat (go_big_quiet_step (fail))
      refine wpQuiet_nil ?_
      refine wpS_addrArr (i := 1) (d := some 21) (b := cb) (j := jb) is8 rfl (by rfl) rfl rfl rfl (by omega) rfl ?_
      simp only [Act.put, List.setIfInBounds_toArray, List.set_cons_succ, List.set_cons_zero]
      refine wpS_setEl (i := 2) (z := 0) (L2 := [_]) rfl (by rfl) rfl rfl rfl HM9.out 0 rfl rfl (by simp [tabN_len]; omega) covS_nil rfl ?_
      rintro W18 hm17 -
      have HM19 := Lib.hid hm17
      clear hm17
      refine wpS_nil ?_
      refine block_normal ?_
      refine then_normal ?_
      refine wp_region_N [(0, 1), (1, 1)] (by kernel_rfl) ?_
      refine wpS_this [0, 1] rfl (by kernel_rfl) (by simp only [pickL, nthL, List.cons_append, List.nil_append]; rfl) ?_
      repeat (go_big_quiet_step (fail))
      refine wpQuiet_nil ?_
      refine wpS_nil ?_
      refine then_normal ?_
      refine rounds_step ?_
      refine wp_seq ?_
      refine wp_region_N [(0, 1)] (by kernel_rfl) ?_
      refine wpS_this [0] rfl (by kernel_rfl) (by simp only [pickL, nthL, List.cons_append, List.nil_append]; rfl) ?_
      repeat (go_big_quiet_step (fail))
      refine wpQuiet_nil ?_
      refine wpS_nil ?_
      refine then_normal ?_
      refine wp_seq ?_
      refine wp_cond_false rfl ?_
      refine wp_exit ?_
      refine then_exit (then_exit (block_exit ?_))
      refine then_normal ?_
      refine wp_seq ?_
      refine wp_seq ?_
      refine wp_region_N [(0, 1), (1, 3), (2, 1)] (by kernel_rfl) ?_
      refine wpS_loadArr (i := 0) (d := some 23) is8 rfl (by rfl) rfl rfl HM19.out 0 rfl (by simp [tabN_len]) rfl ?_
      simp only [Act.put, List.setIfInBounds_toArray, List.set_cons_succ, List.set_cons_zero]
      refine wpS_does1 (i := 1) (d := some 24) (rem := [_, _]) (out := [_, _]) rfl (by rfl) rfl Try.call28 (need_d ((tabN L).set jb 0) (updI (updI L (-1) 0) (jb : Int) 0) (by rw [← tabN_set _ (by omega), tabN_out _ (.inl (by decide))])) rfl HM19.out [] rfl covS_nil rfl rfl ?_
      rintro W21 hm20 -
      have HM22 := Lib.hid hm20
      clear hm20
      simp only [Act.put, List.setIfInBounds_toArray, List.set_cons_succ, List.set_cons_zero]
      refine wpS_this [2] rfl (by kernel_rfl) (by simp only [pickL, nthL, List.cons_append, List.nil_append]; rfl) ?_
      repeat (go_big_quiet_step (fail))
      refine wpQuiet_nil ?_
      refine wpS_nil ?_
      refine then_normal ?_
      refine wp_seq ?_
      refine wp_region_N [(0, 1), (1, 1)] (by kernel_rfl) ?_
      refine wpS_this [0, 1] rfl (by kernel_rfl) (by simp only [pickL, nthL, List.cons_append, List.nil_append]; rfl) ?_
      repeat (go_big_quiet_step (fail))
      refine wpQuiet_nil ?_
      refine wpS_nil ?_
      refine then_normal ?_
      refine wp_cond_split rfl (fun h23 => ?_) (fun h23 => ?_)
      · have h9 : Hid (needI (updI (updI L (-1) 0) (jb : Int) 0) ≠ -1) := Lib.hid (by simpa using h23)
        clear h23
        refine wp_seq ?_
        refine wp_region_N [(0, 1), (1, 1)] (by kernel_rfl) ?_
        refine wpS_this [0, 1] rfl (by kernel_rfl) (by simp only [pickL, nthL, List.cons_append, List.nil_append]; rfl) ?_
        repeat (go_big_quiet_step (fail))
        refine wpQuiet_nil ?_
        refine wpS_nil ?_
        refine then_normal ?_
        refine wp_ret ?_
        refine then_ret ?_
        refine bodyPost_ret (results_tmp rfl _ _ _) rfl ?_
        unfold takeI
        rw [if_pos h9.out]
        exact does_ret (Mem.only (M := []) HM22.out [] rfl) rfl rfl
      · have h9 : Hid (¬ needI (updI (updI L (-1) 0) (jb : Int) 0) ≠ -1) := Lib.hid (by simpa using h23)
        clear h23
        refine wp_skip ?_
        refine then_normal ?_
        refine wp_seq ?_
        refine wp_region_N [(0, 1), (1, 3), (2, 1)] (by kernel_rfl) ?_
        refine wpS_loadArr (i := 0) (d := some 28) is8 rfl (by rfl) rfl rfl HM22.out 1 rfl (tabN_len L) rfl ?_
        simp only [Act.put, List.setIfInBounds_toArray, List.set_cons_succ, List.set_cons_zero]
        refine wpS_does1 (i := 1) (d := some 29) (rem := [_, _]) (out := [_, _]) rfl (by rfl) rfl Try.call28 (need_d (tabN L) L rfl) rfl HM22.out [] rfl covS_nil rfl rfl ?_
        rintro W25 hm24 -
        have HM26 := Lib.hid hm24
        clear hm24
        simp only [Act.put, List.setIfInBounds_toArray, List.set_cons_succ, List.set_cons_zero]
        refine wpS_this [2] rfl (by kernel_rfl) (by simp only [pickL, nthL, List.cons_append, List.nil_append]; rfl) ?_
        repeat (go_big_quiet_step (fail))
        refine wpQuiet_nil ?_
        refine wpS_nil ?_
        refine then_normal ?_
        refine wp_ret ?_
        refine bodyPost_ret (results_tmp rfl _ _ _) rfl ?_
        unfold takeI
        rw [if_neg h9.out]
        exact does_ret (Mem.only (M := []) HM26.out [] rfl) rfl rfl
  · obtain ⟨ja, rfl⟩ : ∃ j : Nat, a = (j : Int) := ⟨a.toNat, by omega⟩
    have ga : ((ja : Int) != -1) = true := bne_iff_ne.2 (by omega)
    refine wp_region_N [(0, 1), (1, 1)] (by kernel_rfl) ?_
    refine wpS_this [0, 1] rfl (by kernel_rfl) (by simp only [pickL, nthL, List.cons_append, List.nil_append]; rfl) ?_
    repeat (go_big_quiet_step (fail))
    refine wpQuiet_nil ?_
    refine wpS_nil ?_
    refine then_normal ?_
    refine wp_cond_true rfl ?_
    refine wp_region_N [(0, 1), (1, 1), (2, 3)] (by kernel_rfl) ?_
    refine wpS_this [0] rfl (by kernel_rfl) (by simp only [pickL, nthL, List.cons_append, List.nil_append]; rfl) ?_
    repeat (go_big_quiet_step (fail))
    refine wpQuiet_nil ?_
    refine wpS_addrArr (i := 1) (d := some 21) (b := cb) (j := ja) is8 rfl (by rfl) rfl rfl rfl (by omega) rfl ?_
    simp only [Act.put, List.setIfInBounds_toArray, List.set_cons_succ, List.set_cons_zero]
    refine wpS_setEl (i := 2) (z := 0) (L2 := [_]) rfl (by rfl) rfl rfl rfl HM9.out 0 rfl rfl (by simp [tabN_len]; omega) covS_nil rfl ?_
    rintro W28 hm27 -
    have HM29 := Lib.hid hm27
    clear hm27
    refine wpS_nil ?_
    refine block_normal ?_
    refine then_normal ?_
    refine wp_region_N [(0, 1), (1, 1)] (by kernel_rfl) ?_
    refine wpS_this [0, 1] rfl (by kernel_rfl) (by simp only [pickL, nthL, List.cons_append, List.nil_append]; rfl) ?_
    repeat (go_big_quiet_step (fail))
    refine wpQuiet_nil ?_
    refine wpS_nil ?_
    refine then_normal ?_
    refine rounds_step ?_
    refine wp_seq ?_
    refine wp_region_N [(0, 1)] (by kernel_rfl) ?_
    refine wpS_this [0] rfl (by kernel_rfl) (by simp only [pickL, nthL, List.cons_append, List.nil_append]; rfl) ?_
    repeat (go_big_quiet_step (fail))
    refine wpQuiet_nil ?_
    refine wpS_nil ?_
    refine then_normal ?_
    refine wp_seq ?_
    refine wp_cond_true rfl ?_
    refine wp_skip ?_
    refine then_normal ?_
    refine wp_seq ?_
    refine wp_block ?_
    refine wp_seq ?_
    refine wp_region_N [(0, 1), (1, 1)] (by kernel_rfl) ?_
    refine wpS_indexArr (i := 0) (d := some 17) (j := 1) (l := [(ja : Int), b]) is2 rfl (by rfl) rfl rfl rfl (rfl) (rfl) rfl ?_
    simp only [Act.put, List.setIfInBounds_toArray, List.set_cons_succ, List.set_cons_zero]
    refine wpS_this [1] rfl (by kernel_rfl) (by simp only [pickL, nthL, List.cons_append, List.nil_append]; rfl) ?_
    repeat (go_big_quiet_step (fail))
    refine wpQuiet_nil ?_
    refine wpS_nil ?_
    refine then_normal ?_
    refine wp_seq ?_
    rcases hb with hb1 | hb1
    · subst hb1
      refine wp_region_N [(0, 1), (1, 1)] (by kernel_rfl) ?_
      refine wpS_this [0, 1] rfl (by kernel_rfl) (by simp only [pickL, nthL, List.cons_append, List.nil_append]; rfl) ?_
      repeat (go_big_quiet_step (fail))
      refine wpQuiet_nil ?_
      refine wpS_nil ?_
      refine then_normal ?_
      refine wp_cond_false rfl ?_
      refine wp_skip ?_
      refine block_normal ?_
      refine then_normal ?_
      refine wp_region_N [(0, 1), (1, 1)] (by kernel_rfl) ?_
      refine wpS_this [0, 1] rfl (by kernel_rfl) (by simp only [pickL, nthL, List.cons_append, List.nil_append]; rfl) ?_
      repeat (go_big_quiet_step (fail))
      refine wpQuiet_nil ?_
      refine wpS_nil ?_
      refine then_normal ?_
      refine rounds_step ?_
      refine wp_seq ?_
      refine wp_region_N [(0, 1)] (by kernel_rfl) ?_
      refine wpS_this [0] rfl (by kernel_rfl) (by simp only [pickL, nthL, List.cons_append, List.nil_append]; rfl) ?_
      repeat (go_big_quiet_step (fail))
      refine wpQuiet_nil ?_
      refine wpS_nil ?_
      refine then_normal ?_
      refine wp_seq ?_
      refine wp_cond_false rfl ?_
      refine wp_exit ?_
      refine then_exit (then_exit (block_exit ?_))
      refine then_normal ?_
      refine wp_seq ?_
      refine wp_seq ?_
      refine wp_region_N [(0, 1), (1, 3), (2, 1)] (by kernel_rfl) ?_
      refine wpS_loadArr (i := 0) (d := some 23) is8 rfl (by rfl) rfl rfl HM29.out 0 rfl (by simp [tabN_len]) rfl ?_
      simp only [Act.put, List.setIfInBounds_toArray, List.set_cons_succ, List.set_cons_zero]
      refine wpS_does1 (i := 1) (d := some 24) (rem := [_, _]) (out := [_, _]) rfl (by rfl) rfl Try.call28 (need_d ((tabN L).set ja 0) (updI (updI L (ja : Int) 0) (-1) 0) (by rw [tabN_out _ (.inl (by decide)), ← tabN_set _ (by omega)])) rfl HM29.out [] rfl covS_nil rfl rfl ?_
      rintro W31 hm30 -
      have HM32 := Lib.hid hm30
      clear hm30
      simp only [Act.put, List.setIfInBounds_toArray, List.set_cons_succ, List.set_cons_zero]
      refine wpS_this [2] rfl (by kernel_rfl) (by simp only [pickL, nthL, List.cons_append, List.nil_append]; rfl) ?_
      repeat (go_big_quiet_step (fail))
      refine wpQuiet_nil ?_
      refine wpS_nil ?_
      refine then_normal ?_
      refine wp_seq ?_
      refine wp_region_N [(0, 1), (1, 1)] (by kernel_rfl) ?_
      refine wpS_this [0, 1] rfl (by kernel_rfl) (by simp only [pickL, nthL, List.cons_append, List.nil_append]; rfl) ?_
      repeat (go_big_quiet_step (fail))
      refine wpQuiet_nil ?_
      refine wpS_nil ?_
      refine then_normal ?_
      refine wp_cond_split rfl (fun h33 => ?_) (fun h33 => ?_)
      · have h9 : Hid (needI (updI (updI L (ja : Int) 0) (-1) 0) ≠ -1) := Lib.hid (by simpa using h33)
        clear h33
        refine wp_seq ?_
        refine wp_region_N [(0, 1), (1, 1)] (by kernel_rfl) ?_
        refine wpS_this [0, 1] rfl (by kernel_rfl) (by simp only [pickL, nthL, List.cons_append, List.nil_append]; rfl) ?_
        repeat (go_big_quiet_step (fail))
        refine wpQuiet_nil ?_
        refine wpS_nil ?_
        refine then_normal ?_
        refine wp_ret ?_
        refine then_ret ?_
        refine bodyPost_ret (results_tmp rfl _ _ _) rfl ?_
        unfold takeI
        rw [if_pos h9.out]
        exact does_ret (Mem.only (M := []) HM32.out [] rfl) rfl rfl
      · have h9 : Hid (¬ needI (updI (updI L (ja : Int) 0) (-1) 0) ≠ -1) := Lib.hid (by simpa using h33)
        clear h33
        refine wp_skip ?_
        refine then_normal ?_
        refine wp_seq ?_
        refine wp_region_N [(0, 1), (1, 3), (2, 1)] (by kernel_rfl) ?_
        refine wpS_loadArr (i := 0) (d := some 28) is8 rfl (by rfl) rfl rfl HM32.out 1 rfl (tabN_len L) rfl ?_
        simp only [Act.put, List.setIfInBounds_toArray, List.set_cons_succ, List.set_cons_zero]
        refine wpS_does1 (i := 1) (d := some 29) (rem := [_, _]) (out := [_, _]) rfl (by rfl) rfl Try.call28 (need_d (tabN L) L rfl) rfl HM32.out [] rfl covS_nil rfl rfl ?_
        rintro W35 hm34 -
        have HM36 := Lib.hid hm34
        clear hm34
        simp only [Act.put, List.setIfInBounds_toArray, List.set_cons_succ, List.set_cons_zero]
        refine wpS_this [2] rfl (by kernel_rfl) (by simp only [pickL, nthL, List.cons_append, List.nil_append]; rfl) ?_
        repeat (go_big_quiet_step (fail))
        refine wpQuiet_nil ?_
        refine wpS_nil ?_
        refine then_normal ?_
        refine wp_ret ?_
        refine bodyPost_ret (results_tmp rfl _ _ _) rfl ?_
        unfold takeI
        rw [if_neg h9.out]
        exact does_ret (Mem.only (M := []) HM36.out [] rfl) rfl rfl
    · obtain ⟨jb, rfl⟩ : ∃ j : Nat, b = (j : Int) := ⟨b.toNat, by omega⟩
      have gb : ((jb : Int) != -1) = true := bne_iff_ne.2 (by omega)
      refine wp_region_N [(0, 1), (1, 1)] (by kernel_rfl) ?_
      refine wpS_this [0, 1] rfl (by kernel_rfl) (by simp only [pickL, nthL, List.cons_append, List.nil_append]; rfl) ?_
      repeat (go_big_quiet_step (fail))
      refine wpQuiet_nil ?_
      refine wpS_nil ?_
      refine then_normal ?_
      refine wp_cond_true rfl ?_
      refine wp_region_N [(0, 1), (1, 1), (2, 3)] (by kernel_rfl) ?_
      refine wpS_this [0] rfl (by kernel_rfl) (by simp only [pickL, nthL, List.cons_append, List.nil_append]; rfl) ?_
      repeat (go_big_quiet_step (fail))
      refine wpQuiet_nil ?_
      refine wpS_addrArr (i := 1) (d := some 21) (b := cb) (j := jb) is8 rfl (by rfl) rfl rfl rfl (by omega) rfl ?_
      simp only [Act.put, List.setIfInBounds_toArray, List.set_cons_succ, List.set_cons_zero]
      refine wpS_setEl (i := 2) (z := 0) (L2 := [_]) rfl (by rfl) rfl rfl rfl HM29.out 0 rfl rfl (by simp [tabN_len]; omega) covS_nil rfl ?_
      rintro W38 hm37 -
      have HM39 := Lib.hid hm37
      clear hm37
      refine wpS_nil ?_
      refine block_normal ?_
      refine then_normal ?_
      refine wp_region_N [(0, 1), (1, 1)] (by kernel_rfl) ?_
      refine wpS_this [0, 1] rfl (by kernel_rfl) (by simp only [pickL, nthL, List.cons_append, List.nil_append]; rfl) ?_
      repeat (go_big_quiet_step (fail))
      refine wpQuiet_nil ?_
      refine wpS_nil ?_
      refine then_normal ?_
      refine rounds_step ?_
      refine wp_seq ?_
      refine wp_region_N [(0, 1)] (by kernel_rfl) ?_
      refine wpS_this [0] rfl (by kernel_rfl) (by simp only [pickL, nthL, List.cons_append, List.nil_append]; rfl) ?_
      repeat (go_big_quiet_step (fail))
      refine wpQuiet_nil ?_
      refine wpS_nil ?_
      refine then_normal ?_
      refine wp_seq ?_
      refine wp_cond_false rfl ?_
      refine wp_exit ?_
      refine then_exit (then_exit (block_exit ?_))
      refine then_normal ?_
      refine wp_seq ?_
      refine wp_seq ?_
      refine wp_region_N [(0, 1), (1, 3), (2, 1)] (by kernel_rfl) ?_
      refine wpS_loadArr (i := 0) (d := some 23) is8 rfl (by rfl) rfl rfl HM39.out 0 rfl (by simp [tabN_len]) rfl ?_
      simp only [Act.put, List.setIfInBounds_toArray, List.set_cons_succ, List.set_cons_zero]
      refine wpS_does1 (i := 1) (d := some 24) (rem := [_, _]) (out := [_, _]) rfl (by rfl) rfl Try.call28 (need_d (((tabN L).set ja 0).set jb 0) (updI (updI L (ja : Int) 0) (jb : Int) 0) (by rw [← tabN_set _ (by omega), ← tabN_set _ (by omega)])) rfl HM39.out [] rfl covS_nil rfl rfl ?_
      rintro W41 hm40 -
      have HM42 := Lib.hid hm40
      clear hm40
      simp only [Act.put, List.setIfInBounds_toArray, List.set_cons_succ, List.set_cons_zero]
      refine wpS_this [2] rfl (by kernel_rfl) (by simp only [pickL, nthL, List.cons_append, List.nil_append]; rfl) ?_
      repeat (go_big_quiet_step (fail))
      refine wpQuiet_nil ?_
      refine wpS_nil ?_
      refine then_normal ?_
      refine wp_seq ?_
      refine wp_region_N [(0, 1), (1, 1)] (by kernel_rfl) ?_
      refine wpS_this [0, 1] rfl (by kernel_rfl) (by simp only [pickL, nthL, List.cons_append, List.nil_append]; rfl) ?_
      repeat (go_big_quiet_step (fail))
      refine wpQuiet_nil ?_
      refine wpS_nil ?_
      refine then_normal ?_
      refine wp_cond_split rfl (fun h43 => ?_) (fun h43 => ?_)
      · have h9 : Hid (needI (updI (updI L (ja : Int) 0) (jb : Int) 0) ≠ -1) := Lib.hid (by simpa using h43)
        clear h43
        refine wp_seq ?_
        refine wp_region_N [(0, 1), (1, 1)] (by kernel_rfl) ?_
        refine wpS_this [0, 1] rfl (by kernel_rfl) (by simp only [pickL, nthL, List.cons_append, List.nil_append]; rfl) ?_
        repeat (go_big_quiet_step (fail))
        refine wpQuiet_nil ?_
        refine wpS_nil ?_
        refine then_normal ?_
        refine wp_ret ?_
        refine then_ret ?_
        refine bodyPost_ret (results_tmp rfl _ _ _) rfl ?_
        unfold takeI
        rw [if_pos h9.out]
        exact does_ret (Mem.only (M := []) HM42.out [] rfl) rfl rfl
      · have h9 : Hid (¬ needI (updI (updI L (ja : Int) 0) (jb : Int) 0) ≠ -1) := Lib.hid (by simpa using h43)
        clear h43
        refine wp_skip ?_
        refine then_normal ?_
        refine wp_seq ?_
        refine wp_region_N [(0, 1), (1, 3), (2, 1)] (by kernel_rfl) ?_
        refine wpS_loadArr (i := 0) (d := some 28) is8 rfl (by rfl) rfl rfl HM42.out 1 rfl (tabN_len L) rfl ?_
        simp only [Act.put, List.setIfInBounds_toArray, List.set_cons_succ, List.set_cons_zero]
        refine wpS_does1 (i := 1) (d := some 29) (rem := [_, _]) (out := [_, _]) rfl (by rfl) rfl Try.call28 (need_d (tabN L) L rfl) rfl HM42.out [] rfl covS_nil rfl rfl ?_
        rintro W45 hm44 -
        have HM46 := Lib.hid hm44
        clear hm44
        simp only [Act.put, List.setIfInBounds_toArray, List.set_cons_succ, List.set_cons_zero]
        refine wpS_this [2] rfl (by kernel_rfl) (by simp only [pickL, nthL, List.cons_append, List.nil_append]; rfl) ?_
        repeat (go_big_quiet_step (fail))
        refine wpQuiet_nil ?_
        refine wpS_nil ?_
        refine then_normal ?_
        refine wp_ret ?_
        refine bodyPost_ret (results_tmp rfl _ _ _) rfl ?_
        unfold takeI
        rw [if_neg h9.out]
        exact does_ret (Mem.only (M := []) HM46.out [] rfl) rfl rfl
end
end Go.Proofs.Ythibiejneggmoaa
