/- ClmH: ClmH. -/
import Derived.Test.YthibiejneggmoaaClmE
import Derived.Test.YthibiejneggmoaaClmF
import Derived.Test.YthibiejneggmoaaClmG
namespace Go.Proofs.Ythibiejneggmoaa
section
open Go Go.RowKit Go.BigFrame
theorem off_le17 (now M : List Int) (n : Int) : offM M (quotaOf now M) n ≤ 17 := by
  have h1 := (quota_range now M n).2
  have h2 : 16 / M.length ≤ 16 := Nat.div_le_self _ _
  unfold offM
  split <;> omega
set_option maxHeartbeats 4000000 in
set_option maxRecDepth 100000 in
theorem quotas_d (R : At) (vn vm : Value) (now ms : List Int) (hN : ∀ W H, R.p W H → RowAt elemI W vn now) (hM : ∀ W H, R.p W H → RowAt elemI W vm ms) (hml : ms.length ≤ 1000) : DoesU Try.prog 16 #[vn, vm] [R] (fun u => [rowT elemI u (quotasOf now (peersOf ms (-1))), R]) := by
  intro w H hp
  have HM0 := Lib.hid (mem_refl hp)
  clear hp
  go_enter Try.func16, Try.ntmps16
  refine wp_seq ?_
  refine wp_region_N [(0, 1)] (by kernel_rfl) ?_
  refine wpS_this [0] rfl (by kernel_rfl) (by simp only [pickL, nthL, List.cons_append, List.nil_append]; rfl) ?_
  repeat (go_big_quiet_step (fail))
  refine wpQuiet_nil ?_
  refine wpS_nil ?_
  refine then_normal ?_
  refine wp_seq ?_
  refine wp_region_N [(0, 1), (1, 3), (2, 1)] (by kernel_rfl) ?_
  refine wpS_this [0] rfl (by kernel_rfl) (by simp only [pickL, nthL, List.cons_append, List.nil_append]; rfl) ?_
  repeat (go_big_quiet_step (fail))
  refine wpQuiet_nil ?_
  refine wpS_doesU1 (i := 1) (d := some 11) (rem := []) rfl (by rfl) rfl Try.call15 (members_d R vm ms hM hml) rfl HM0.out [0] rfl covS_nil (fun _ => rfl) rfl ?_
  rintro u3 W2 hm1 -
  have hok := peersOf_ok ms (-1)
  have hasc := peersOf_asc ms
  obtain ⟨M, hMe'⟩ : ∃ x, peersOf ms (-1) = x := ⟨_, rfl⟩
  rw [hMe'] at hm1 hok hasc
  obtain ⟨mp, mc, rfl⟩ := row_form (Mem.src hm1 0 rfl rowT_reads)
  have hM8 : M.length ≤ 8 := by rw [← hMe']; exact peersOf_len8 _ _
  have hok := Lib.hid hok
  have hasc := Lib.hid hasc
  have hnd : Hid M.Nodup := Lib.hid hok.out.nodup
  have hMe := Lib.hid hMe'
  clear hMe'
  have HM4 := Lib.hid hm1
  clear hm1
  simp only [Act.put, List.setIfInBounds_toArray, List.set_cons_succ, List.set_cons_zero]
  refine wpS_this [2] rfl (by kernel_rfl) (by simp only [pickL, nthL, List.cons_append, List.nil_append]; rfl) ?_
  repeat (go_big_quiet_step (fail))
  refine wpQuiet_nil ?_
  refine wpS_nil ?_
  refine then_normal ?_
  refine wp_seq ?_
  refine wp_region_N [(0, 1), (1, 3), (2, 1), (3, 3), (4, 3), (5, 3)] (by kernel_rfl) ?_
  refine wpS_this [0] rfl (by kernel_rfl) (by simp only [pickL, nthL, List.cons_append, List.nil_append]; rfl) ?_
  repeat (go_big_quiet_step (fail))
  refine wpQuiet_nil ?_
  refine wpS_does1 (i := 1) (d := some 13) (rem := [_]) (out := [_, _]) rfl (by rfl) rfl Try.call21 (owners_d R vn now hN) rfl HM4.out [1] rfl covS_nil rfl rfl ?_
  rintro W6 hm5 -
  have HM7 := Lib.hid hm5
  clear hm5
  simp only [Act.put, List.setIfInBounds_toArray, List.set_cons_succ, List.set_cons_zero]
  refine wpS_this [2] rfl (by kernel_rfl) (by simp only [pickL, nthL, List.cons_append, List.nil_append]; rfl) ?_
  repeat (go_big_quiet_step (fail))
  refine wpQuiet_nil ?_
  refine wpS_does2 (i := 3) (d := some 15) (rem := [_]) (out := [_, _]) rfl (by rfl) rfl Try.call23 (quotaOf_d (rowT elemI (.slice mp M.length mc) M) _ now M (fun W H h => rowAt_src (rowT_reads W H h)) hok.out hM8) rfl rfl HM7.out [1] rfl covS_nil rfl rfl ?_
  rintro W9 hm8 -
  have HM10 := Lib.hid hm8
  clear hm8
  simp only [Act.put, List.setIfInBounds_toArray, List.set_cons_succ, List.set_cons_zero]
  refine wpS_alloc (i := 4) (dd := 6) (z := aV (List.replicate 8 0)) (cs := (((List.replicate 8 0) : List Int).map iV).toArray) rfl (by rfl) rfl (by kernel_rfl) rfl HM10.out covS_nil rfl ?_
  rintro qb W12 hm11 -
  have HM13 := Lib.hid hm11
  clear hm11
  simp only [Act.put, List.setIfInBounds_toArray, List.set_cons_succ, List.set_cons_zero]
  refine wpS_storeArr (i := 5) (L2 := [_, _]) is8 rfl (by rfl) rfl rfl rfl HM13.out 0 rfl rfl (List.length_replicate) (tabN_len _) covS_nil rfl ?_
  rintro W15 hm14 -
  have HM16 := Lib.hid hm14
  clear hm14
  refine wpS_nil ?_
  refine then_normal ?_
  refine wp_seq ?_
  refine wp_region_N [(0, 1)] (by kernel_rfl) ?_
  refine wpS_this [0] rfl (by kernel_rfl) (by simp only [pickL, nthL, List.cons_append, List.nil_append]; rfl) ?_
  repeat (go_big_quiet_step (fail))
  refine wpQuiet_nil ?_
  refine wpS_nil ?_
  refine then_normal ?_
  refine wp_seq ?_
  refine wp_seq ?_
  refine wp_region_N [(0, 1), (1, 1), (2, 1)] (by kernel_rfl) ?_
  refine wpS_this [0, 1, 2] rfl (by kernel_rfl) (by simp only [pickL, nthL, List.cons_append, List.nil_append]; rfl) ?_
  repeat (go_big_quiet_step (fail))
  refine wpQuiet_nil ?_
  refine wpS_nil ?_
  refine then_normal ?_
  refine wp_block ?_
  refine wp_loop_F [7, 9, 18, 19, 20, 21, 22, 23, 24, 25, 26, 27, 28] (fun n vs W' => ∃ (k : Nat) (u : Value), n = M.length - k ∧ vs 18 = .int .i64 (k : Int) ∧ vs 7 = u ∧ k ≤ M.length ∧ Mem [rowT elemI u ((M.take k).map (quotaOf now M)), R, rowT elemI (.slice mp M.length mc) M, arrT qb 37 (tabN (offM M (quotaOf now M)))] H w W') (n0 := M.length) ?_ ?_
  · exact ⟨0, _, rfl, rfl, rfl, Nat.zero_le _, Mem.nilRow elemI (Mem.only (M := [_, _, _]) HM16.out [2, 1, 0] rfl)⟩
  rintro n vs W' ⟨k, u, rfl, e18, e7, hk, hmm⟩
  simp only [putAll, List.map_cons, List.map_nil, Act.put, List.setIfInBounds_toArray, List.set_cons_succ, List.set_cons_zero]
  rw [e18, e7]
  clear e18 e7
  have hrl : ((M.take k).map (quotaOf now M)).length ≤ 8 := by rw [List.length_map, List.length_take]; omega
  have HM17 := Lib.hid hmm
  clear hmm
  refine wp_seq ?_
  refine wp_region_N [(0, 1)] (by kernel_rfl) ?_
  refine wpS_this [0] rfl (by kernel_rfl) (by simp only [pickL, nthL, List.cons_append, List.nil_append]; rfl) ?_
  repeat (go_big_quiet_step (fail))
  refine wpQuiet_nil ?_
  refine wpS_nil ?_
  refine then_normal ?_
  refine wp_seq ?_
  refine wp_cond_split rfl (fun h18 => ?_) (fun h18 => ?_)
  · have hk1 : k + 1 ≤ M.length := by have : (k : Int) < ((M.length : Nat) : Int) := (by simpa using h18); omega
    clear h18
    obtain ⟨m, hm'⟩ : ∃ y, M[k]? = some y := ⟨_, List.getElem?_eq_getElem hk1⟩
    have hmr := hok.out.node m (List.mem_of_getElem? hm')
    obtain ⟨j, rfl⟩ : ∃ j : Nat, m = (j : Int) := ⟨m.toNat, by omega⟩
    have hm := Lib.hid hm'
    clear hm'
    obtain ⟨qv, hqv'⟩ : ∃ z : Int, quotaOf now M (j : Int) = z := ⟨_, rfl⟩
    have hqv := Lib.hid hqv'
    clear hqv'
    refine wp_skip ?_
    refine then_normal ?_
    refine wp_seq ?_
    refine wp_block ?_
    refine wp_seq ?_
    refine wp_region_N [(0, 1), (1, 1), (2, 1)] (by kernel_rfl) ?_
    refine wpS_index (E := elemI) (i := 0) (d := some 20) rfl (by rfl) rfl rfl rfl (rowAt_src (HM17.out.src 2 rfl rowT_reads)) (hm.out) rfl ?_
    intro eb19 eo20 hc21
    simp only [Act.put, List.setIfInBounds_toArray, List.set_cons_succ, List.set_cons_zero]
    refine wpS_load1 (i := 1) (d := some 21) (u := .int .i64 (j : Int)) rfl (by rfl) rfl rfl (hc21 0 _ rfl) Try.underlying3 rfl rfl ?_
    simp only [Act.put, List.setIfInBounds_toArray, List.set_cons_succ, List.set_cons_zero]
    refine wpS_this [2] rfl (by kernel_rfl) (by simp only [pickL, nthL, List.cons_append, List.nil_append]; rfl) ?_
    repeat (go_big_quiet_step (fail))
    refine wpQuiet_nil ?_
    refine wpS_nil ?_
    refine then_normal ?_
    refine wp_region_N [(0, 1), (1, 1), (2, 1), (3, 1), (4, 3), (5, 3), (6, 1)] (by kernel_rfl) ?_
    refine wpS_this [0, 1] rfl (by kernel_rfl) (by simp only [pickL, nthL, List.cons_append, List.nil_append]; rfl) ?_
    repeat (go_big_quiet_step (fail))
    refine wpQuiet_nil ?_
    refine wpS_addrArr (i := 2) (d := some 24) (b := qb) (j := j) is8 rfl (by rfl) rfl rfl rfl (by omega) rfl ?_
    simp only [Act.put, List.setIfInBounds_toArray, List.set_cons_succ, List.set_cons_zero]
    refine wpS_loadEl (i := 3) (d := some 25) (y := qv) rfl (by rfl) rfl rfl (HM17.out.arr 3 rfl (by rw [tabN_at _ (by omega), off_in _ (List.mem_of_getElem? hm.out), hqv.out])) rfl ?_
    simp only [Act.put, List.setIfInBounds_toArray, List.set_cons_succ, List.set_cons_zero]
    refine wpS_build1 elemI (i := 4) (dd := 26) (y := qv) rfl (by rfl) rfl rfl rfl (by decide) HM17.out covS_nil rfl ?_
    rintro b24 W25 hm26 -
    have HM27 := Lib.hid hm26
    clear hm26
    simp only [Act.put, List.setIfInBounds_toArray, List.set_cons_succ, List.set_cons_zero]
    refine wpS_append (E := elemI) (i := 5) (d := some 27) (L2 := [_, _, _, _]) rfl (by rfl) rfl HM27.out 1 rfl rfl ((HM27.out.src 0 rfl rowT_reads)) rfl (by simp only [List.length_cons, List.length_nil]; show _ * 8 ≤ _; omega) rfl covS_nil rfl ?_
    rintro u30 W31 hm32 -
    have HM33 := Lib.hid hm32
    clear hm32
    simp only [Act.put, List.setIfInBounds_toArray, List.set_cons_succ, List.set_cons_zero]
    refine wpS_this [6] rfl (by kernel_rfl) (by simp only [pickL, nthL, List.cons_append, List.nil_append]; rfl) ?_
    repeat (go_big_quiet_step (fail))
    refine wpQuiet_nil ?_
    refine wpS_nil ?_
    refine block_normal ?_
    refine then_normal ?_
    refine wp_region_N [(0, 1), (1, 1)] (by kernel_rfl) ?_
    refine wpS_this [0, 1] rfl (by kernel_rfl) (by simp only [pickL, nthL, List.cons_append, List.nil_append]; rfl) ?_
    repeat (go_big_quiet_step (fail))
    refine wpQuiet_nil ?_
    refine wpS_nil ?_
    refine then_normal ?_
    refine ⟨by kernel_rfl, ?_⟩
    refine ⟨M.length - (k + 1), by omega, k + 1, _, rfl, rfl, rfl, hk1, ?_⟩
    rw [map_take_succ _ hm.out, hqv.out]
    exact (Mem.only (M := [_, _, _, _]) HM33.out [0, 1, 1, 1] rfl)
  · have hge : Hid (M.length ≤ k) := Lib.hid (by have : ¬ (k : Int) < (M.length : Int) := (by simpa using h18); omega)
    clear h18
    refine wp_exit ?_
    refine then_exit (then_exit (block_exit ?_))
    refine then_normal ?_
    refine wp_seq ?_
    refine wp_region_N [(0, 1), (1, 1)] (by kernel_rfl) ?_
    refine wpS_this [0, 1] rfl (by kernel_rfl) (by simp only [pickL, nthL, List.cons_append, List.nil_append]; rfl) ?_
    repeat (go_big_quiet_step (fail))
    refine wpQuiet_nil ?_
    refine wpS_nil ?_
    refine then_normal ?_
    refine wp_ret ?_
    refine bodyPost_ret (results_tmp rfl _ _ _) rfl ?_
    have hkm : k = M.length := by have := hge.out; omega
    subst hkm
    exact doesU_ret (post := fun u => [rowT elemI u (quotasOf now (peersOf ms (-1))), R]) (Mem.only (M := [_, _]) HM17.out [0, 0] rfl) (by rw [List.take_length, hMe.out]; rfl)
set_option maxHeartbeats 4000000 in
set_option maxRecDepth 100000 in
theorem assign_d (R : At) (vn vm : Value) (now ms : List Int) (hN : ∀ W H, R.p W H → RowAt elemI W vn now) (hM : ∀ W H, R.p W H → RowAt elemI W vm ms) (hml : ms.length ≤ 1000) : DoesU Try.prog 14 #[vn, vm] [R] (fun u => [rdRow u (assignOf now (peersOf ms (-1))), R]) := by
  intro w H hp
  have HM0 := Lib.hid (mem_refl hp)
  clear hp
  go_enter Try.func14, Try.ntmps14
  refine wp_seq ?_
  refine wp_region_N [(0, 1)] (by kernel_rfl) ?_
  refine wpS_this [0] rfl (by kernel_rfl) (by simp only [pickL, nthL, List.cons_append, List.nil_append]; rfl) ?_
  repeat (go_big_quiet_step (fail))
  refine wpQuiet_nil ?_
  refine wpS_nil ?_
  refine then_normal ?_
  refine wp_seq ?_
  refine wp_region_N [(0, 1), (1, 3), (2, 1)] (by kernel_rfl) ?_
  refine wpS_this [0] rfl (by kernel_rfl) (by simp only [pickL, nthL, List.cons_append, List.nil_append]; rfl) ?_
  repeat (go_big_quiet_step (fail))
  refine wpQuiet_nil ?_
  refine wpS_doesU1 (i := 1) (d := some 14) (rem := []) rfl (by rfl) rfl Try.call15 (members_d R vm ms hM hml) rfl HM0.out [0] rfl covS_nil (fun _ => rfl) rfl ?_
  rintro u3 W2 hm1 -
  have hok := peersOf_ok ms (-1)
  have hasc := peersOf_asc ms
  obtain ⟨M, hMe'⟩ : ∃ x, peersOf ms (-1) = x := ⟨_, rfl⟩
  rw [hMe'] at hm1 hok hasc
  obtain ⟨mp, mc, rfl⟩ := row_form (Mem.src hm1 0 rfl rowT_reads)
  have hM8 : M.length ≤ 8 := by rw [← hMe']; exact peersOf_len8 _ _
  have hok := Lib.hid hok
  have hasc := Lib.hid hasc
  have hnd : Hid M.Nodup := Lib.hid hok.out.nodup
  have hMe := Lib.hid hMe'
  clear hMe'
  have HM4 := Lib.hid hm1
  clear hm1
  simp only [Act.put, List.setIfInBounds_toArray, List.set_cons_succ, List.set_cons_zero]
  refine wpS_this [2] rfl (by kernel_rfl) (by simp only [pickL, nthL, List.cons_append, List.nil_append]; rfl) ?_
  repeat (go_big_quiet_step (fail))
  refine wpQuiet_nil ?_
  refine wpS_nil ?_
  refine then_normal ?_
  refine wp_seq ?_
  refine wp_seq ?_
  by_cases h0 : M.length = 0
  · have g1 : ((M.length : Int) == 0) = true := beq_iff_eq.2 (by omega)
    have h0e : M = [] := List.eq_nil_of_length_eq_zero h0
    refine wp_region_N [(0, 1), (1, 1), (2, 1)] (by kernel_rfl) ?_
    refine wpS_this [0, 1, 2] rfl (by kernel_rfl) (by simp only [pickL, nthL, List.cons_append, List.nil_append]; rfl) ?_
    repeat (go_big_quiet_step (fail))
    refine wpQuiet_nil ?_
    refine wpS_nil ?_
    refine then_normal ?_
    refine wp_cond_true rfl ?_
    refine wp_seq ?_
    refine wp_region_N [(0, 1)] (by kernel_rfl) ?_
    refine wpS_this [0] rfl (by kernel_rfl) (by simp only [pickL, nthL, List.cons_append, List.nil_append]; rfl) ?_
    repeat (go_big_quiet_step (fail))
    refine wpQuiet_nil ?_
    refine wpS_nil ?_
    refine then_normal ?_
    refine wp_ret ?_
    refine then_ret ?_
    refine bodyPost_ret (results_tmp rfl _ _ _) rfl ?_
    exact doesU_ret (post := fun u => [rdRow u (assignOf now (peersOf ms (-1))), R]) (by rw [hMe.out, h0e, show assignOf now [] = [] from if_pos rfl]; exact Mem.rdNil (Mem.only (M := [_]) HM4.out [1] rfl)) rfl
  · have g1 : ((M.length : Int) == 0) = false := beq_eq_false_iff_ne.2 (by omega)
    have hne : Hid (M ≠ []) := Lib.hid (fun e => h0 (by rw [e]; rfl))
    refine wp_region_N [(0, 1), (1, 1), (2, 1)] (by kernel_rfl) ?_
    refine wpS_this [0, 1, 2] rfl (by kernel_rfl) (by simp only [pickL, nthL, List.cons_append, List.nil_append]; rfl) ?_
    repeat (go_big_quiet_step (fail))
    refine wpQuiet_nil ?_
    refine wpS_nil ?_
    refine then_normal ?_
    refine wp_cond_false rfl ?_
    refine wp_skip ?_
    refine then_normal ?_
    refine wp_seq ?_
    refine wp_region_N [(0, 1), (1, 3), (2, 3), (3, 3)] (by kernel_rfl) ?_
    refine wpS_this [0] rfl (by kernel_rfl) (by simp only [pickL, nthL, List.cons_append, List.nil_append]; rfl) ?_
    repeat (go_big_quiet_step (fail))
    refine wpQuiet_nil ?_
    refine wpS_does1 (i := 1) (d := some 19) (rem := [_]) (out := [_, _]) rfl (by rfl) rfl Try.call21 (owners_d R vn now hN) rfl HM4.out [1] rfl covS_nil rfl rfl ?_
    rintro W6 hm5 -
    have HM7 := Lib.hid hm5
    clear hm5
    simp only [Act.put, List.setIfInBounds_toArray, List.set_cons_succ, List.set_cons_zero]
    refine wpS_alloc (i := 2) (dd := 6) (z := aV (List.replicate 16 0)) (cs := (((List.replicate 16 0) : List Int).map iV).toArray) rfl (by rfl) rfl (by kernel_rfl) rfl HM7.out covS_nil rfl ?_
    rintro ob W9 hm8 -
    have HM10 := Lib.hid hm8
    clear hm8
    simp only [Act.put, List.setIfInBounds_toArray, List.set_cons_succ, List.set_cons_zero]
    refine wpS_storeArr (i := 3) (L2 := [_, _]) is16 rfl (by rfl) rfl rfl rfl HM10.out 0 rfl rfl (List.length_replicate) (ownL_len now) covS_nil rfl ?_
    rintro W12 hm11 -
    have HM13 := Lib.hid hm11
    clear hm11
    refine wpS_nil ?_
    refine then_normal ?_
    refine wp_seq ?_
    refine wp_cut_F [7, 8, 20, 21, 22, 23, 24, 25, 26, 27] (fun vs W' => ∃ kb lb, vs 7 = .pointer (some ⟨kb, 0, none⟩) ∧ vs 8 = .pointer (some ⟨lb, 0, none⟩) ∧ Mem [R, rowT elemI (.slice mp M.length mc) M, arrT ob 34 (ownL now), arrT kb 34 (gB now M 0).1, arrT lb 37 (tabN (offM M (gB now M 0).2))] H w W') ?_ ?_
    · refine wp_region_taken [] (fun k => k ∈ ([ob] : List Nat)) (by kernel_rfl) rfl rfl ?_
      have hm14 := HM13.out.drew
      have HM15 := Lib.hid hm14
      clear hm14
      refine wpT_takeS (i := 0) (by kernel_rfl) (by kernel_rfl) ?_
      refine wpS_loadArr2 (i := 0) (d := some 21) is16 rfl (by rfl) rfl rfl (by simp) HM15.out 0 rfl (ownL_len now) rfl ?_
      simp only [Act.put, List.setIfInBounds_toArray, List.set_cons_succ, List.set_cons_zero]
      refine wpS_nil ?_
      refine wpT_takeS (i := 1) (by kernel_rfl) (by kernel_rfl) ?_
      refine wpS_loadArr2 (i := 1) (d := some 22) is16 rfl (by rfl) rfl rfl (by simp) HM15.out 0 rfl (ownL_len now) rfl ?_
      simp only [Act.put, List.setIfInBounds_toArray, List.set_cons_succ, List.set_cons_zero]
      refine wpS_nil ?_
      refine wpT_takeS (i := 2) (by kernel_rfl) (by kernel_rfl) ?_
      refine wpS_stay [2] rfl (by kernel_rfl) (by simp only [pickL, nthL, List.cons_append, List.nil_append]; rfl) ?_
      repeat (go_big_quiet_step (fail))
      refine wpQuiet_nil ?_
      refine wpS_nil ?_
      refine wpT_ready 3 [8, 9] (by kernel_rfl) (allT_cons ?_ (allT_cons ?_ (allT_cons ?_ allT_nil)))
      · refine opT_S (by kernel_rfl) ?_
        refine wpS_does2 (i := 3) (d := some 24) (rem := [_, _]) (out := [_, _, _]) rfl (by rfl) rfl Try.call23 (quotaOf_d (rowT elemI (.slice mp M.length mc) M) _ now M (fun W H h => rowAt_src (rowT_reads W H h)) hok.out hM8) rfl rfl HM15.out [2] rfl (covS_box 0 rfl covS_nil) rfl rfl ?_
        rintro W17 hm16 hg18
        have HM19 := Lib.hid hm16
        clear hm16
        simp only [Act.put, List.setIfInBounds_toArray, List.set_cons_succ, List.set_cons_zero]
        refine wpS_nil ?_
        refine wpT_ready 4 [8, 9] (by kernel_rfl) (allT_cons ?_ (allT_cons ?_ (allT_cons ?_ allT_nil)))
        · refine opT_S (by kernel_rfl) ?_
          refine wpS_does2 (i := 4) (d := some 25) (rem := [_, _, _]) (out := [_, _, _]) rfl (by rfl) rfl Try.call22 (keep_d now M (offM M (quotaOf now M)) hok.out (fun n h => off_out _ h) (off_le17 now M)) rfl rfl HM19.out [] rfl (covS_box 1 rfl covS_nil) rfl rfl ?_
          rintro W21 hm20 hg22
          have HM23 := Lib.hid hm20
          clear hm20
          simp only [Act.put, List.setIfInBounds_toArray, List.set_cons_succ, List.set_cons_zero]
          refine wpS_nil ?_
          refine wpT_takeS (i := 5) (by kernel_rfl) (by kernel_rfl) ?_
          refine wpS_stay [5] rfl (by kernel_rfl) (by simp only [pickL, nthL, List.cons_append, List.nil_append]; rfl) ?_
          repeat (go_big_quiet_step (fail))
          refine wpQuiet_nil ?_
          refine wpS_nil ?_
          refine wpT_takeS (i := 6) (by kernel_rfl) (by kernel_rfl) ?_
          refine wpS_stay [6] rfl (by kernel_rfl) (by simp only [pickL, nthL, List.cons_append, List.nil_append]; rfl) ?_
          repeat (go_big_quiet_step (fail))
          refine wpQuiet_nil ?_
          refine wpS_nil ?_
          refine wpT_takeS (i := 7) (by kernel_rfl) (by kernel_rfl) ?_
          refine wpS_stay [7] rfl (by kernel_rfl) (by simp only [pickL, nthL, List.cons_append, List.nil_append]; rfl) ?_
          repeat (go_big_quiet_step (fail))
          refine wpQuiet_nil ?_
          refine wpS_nil ?_
          refine wpT_ready 8 [9] (by kernel_rfl) (allT_cons ?_ (allT_cons ?_ allT_nil))
          · refine opT_S (by kernel_rfl) ?_
            refine wpS_alloc (i := 8) (dd := 7) (z := aV (List.replicate 16 0)) (cs := (((List.replicate 16 0) : List Int).map iV).toArray) rfl (by rfl) rfl (by kernel_rfl) rfl HM23.out (covS_box 1 rfl covS_nil) rfl ?_
            rintro kb W25 hm24 hg26
            have HM27 := Lib.hid hm24
            clear hm24
            simp only [Act.put, List.setIfInBounds_toArray, List.set_cons_succ, List.set_cons_zero]
            refine wpS_nil ?_
            refine wpT_ready 9 [] (by kernel_rfl) (allT_cons ?_ allT_nil)
            refine opT_S (by kernel_rfl) ?_
            refine wpS_alloc (i := 9) (dd := 8) (z := aV (List.replicate 8 0)) (cs := (((List.replicate 8 0) : List Int).map iV).toArray) rfl (by rfl) rfl (by kernel_rfl) rfl HM27.out (covS_box 2 rfl covS_nil) rfl ?_
            rintro lb W29 hm28 hg30
            have HM31 := Lib.hid hm28
            clear hm28
            simp only [Act.put, List.setIfInBounds_toArray, List.set_cons_succ, List.set_cons_zero]
            refine wpS_nil ?_
            refine wpT_ready 10 [] (by kernel_rfl) (allT_cons ?_ allT_nil)
            refine opT_S (by kernel_rfl) ?_
            refine wpS_storeArr (i := 10) (L2 := [_, _, _, _]) is16 rfl (by rfl) rfl rfl rfl HM31.out 1 rfl rfl (List.length_replicate) (keepK_len _ _ _ 16) (covS_box 2 rfl covS_nil) rfl ?_
            rintro W33 hm32 hg34
            have HM35 := Lib.hid hm32
            clear hm32
            refine wpS_nil ?_
            refine wpT_ready 11 [] (by kernel_rfl) (allT_cons ?_ allT_nil)
            refine opT_S (by kernel_rfl) ?_
            refine wpS_storeArr (i := 11) (L2 := [_, _, _, _]) is8 rfl (by rfl) rfl rfl rfl HM35.out 1 rfl rfl (List.length_replicate) (tabN_len _) (covS_box 2 rfl covS_nil) rfl ?_
            rintro W37 hm36 hg38
            have HM39 := Lib.hid hm36
            clear hm36
            refine wpS_nil ?_
            refine wpT_end (by kernel_rfl) ?_
            refine then_normal ?_
            refine ⟨by kernel_rfl, ?_⟩
            refine ⟨_, _, rfl, rfl, ?_⟩
            have hfin := (Mem.only (M := [_, _, _, _, _]) HM39.out [4, 2, 2, 1, 0] rfl)
            rw [keep_off] at hfin
            exact hfin
          · refine opT_S (by kernel_rfl) ?_
            refine wpS_alloc (i := 9) (dd := 8) (z := aV (List.replicate 8 0)) (cs := (((List.replicate 8 0) : List Int).map iV).toArray) rfl (by rfl) rfl (by kernel_rfl) rfl HM23.out (covS_box 1 rfl covS_nil) rfl ?_
            rintro lb W41 hm40 hg42
            have HM43 := Lib.hid hm40
            clear hm40
            simp only [Act.put, List.setIfInBounds_toArray, List.set_cons_succ, List.set_cons_zero]
            refine wpS_nil ?_
            refine wpT_ready 8 [] (by kernel_rfl) (allT_cons ?_ allT_nil)
            refine opT_S (by kernel_rfl) ?_
            refine wpS_alloc (i := 8) (dd := 7) (z := aV (List.replicate 16 0)) (cs := (((List.replicate 16 0) : List Int).map iV).toArray) rfl (by rfl) rfl (by kernel_rfl) rfl HM43.out (covS_box 2 rfl covS_nil) rfl ?_
            rintro kb W45 hm44 hg46
            have HM47 := Lib.hid hm44
            clear hm44
            simp only [Act.put, List.setIfInBounds_toArray, List.set_cons_succ, List.set_cons_zero]
            refine wpS_nil ?_
            refine wpT_ready 10 [] (by kernel_rfl) (allT_cons ?_ allT_nil)
            refine opT_S (by kernel_rfl) ?_
            refine wpS_storeArr (i := 10) (L2 := [_, _, _, _]) is16 rfl (by rfl) rfl rfl rfl HM47.out 0 rfl rfl (List.length_replicate) (keepK_len _ _ _ 16) (covS_box 2 rfl covS_nil) rfl ?_
            rintro W49 hm48 hg50
            have HM51 := Lib.hid hm48
            clear hm48
            refine wpS_nil ?_
            refine wpT_ready 11 [] (by kernel_rfl) (allT_cons ?_ allT_nil)
            refine opT_S (by kernel_rfl) ?_
            refine wpS_storeArr (i := 11) (L2 := [_, _, _, _]) is8 rfl (by rfl) rfl rfl rfl HM51.out 1 rfl rfl (List.length_replicate) (tabN_len _) (covS_box 2 rfl covS_nil) rfl ?_
            rintro W53 hm52 hg54
            have HM55 := Lib.hid hm52
            clear hm52
            refine wpS_nil ?_
            refine wpT_end (by kernel_rfl) ?_
            refine then_normal ?_
            refine ⟨by kernel_rfl, ?_⟩
            refine ⟨_, _, rfl, rfl, ?_⟩
            have hfin := (Mem.only (M := [_, _, _, _, _]) HM55.out [4, 2, 2, 1, 0] rfl)
            rw [keep_off] at hfin
            exact hfin
        · refine opT_S (by kernel_rfl) ?_
          refine wpS_alloc (i := 8) (dd := 7) (z := aV (List.replicate 16 0)) (cs := (((List.replicate 16 0) : List Int).map iV).toArray) rfl (by rfl) rfl (by kernel_rfl) rfl HM19.out (covS_box 1 rfl covS_nil) rfl ?_
          rintro kb W57 hm56 hg58
          have HM59 := Lib.hid hm56
          clear hm56
          simp only [Act.put, List.setIfInBounds_toArray, List.set_cons_succ, List.set_cons_zero]
          refine wpS_nil ?_
          refine wpT_ready 4 [9] (by kernel_rfl) (allT_cons ?_ (allT_cons ?_ allT_nil))
          · refine opT_S (by kernel_rfl) ?_
            refine wpS_does2 (i := 4) (d := some 25) (rem := [_, _, _, _]) (out := [_, _, _, _]) rfl (by rfl) rfl Try.call22 (keep_d now M (offM M (quotaOf now M)) hok.out (fun n h => off_out _ h) (off_le17 now M)) rfl rfl HM59.out [] rfl (covS_box 2 rfl covS_nil) rfl rfl ?_
            rintro W61 hm60 hg62
            have HM63 := Lib.hid hm60
            clear hm60
            simp only [Act.put, List.setIfInBounds_toArray, List.set_cons_succ, List.set_cons_zero]
            refine wpS_nil ?_
            refine wpT_takeS (i := 5) (by kernel_rfl) (by kernel_rfl) ?_
            refine wpS_stay [5] rfl (by kernel_rfl) (by simp only [pickL, nthL, List.cons_append, List.nil_append]; rfl) ?_
            repeat (go_big_quiet_step (fail))
            refine wpQuiet_nil ?_
            refine wpS_nil ?_
            refine wpT_takeS (i := 6) (by kernel_rfl) (by kernel_rfl) ?_
            refine wpS_stay [6] rfl (by kernel_rfl) (by simp only [pickL, nthL, List.cons_append, List.nil_append]; rfl) ?_
            repeat (go_big_quiet_step (fail))
            refine wpQuiet_nil ?_
            refine wpS_nil ?_
            refine wpT_takeS (i := 7) (by kernel_rfl) (by kernel_rfl) ?_
            refine wpS_stay [7] rfl (by kernel_rfl) (by simp only [pickL, nthL, List.cons_append, List.nil_append]; rfl) ?_
            repeat (go_big_quiet_step (fail))
            refine wpQuiet_nil ?_
            refine wpS_nil ?_
            refine wpT_ready 9 [] (by kernel_rfl) (allT_cons ?_ allT_nil)
            refine opT_S (by kernel_rfl) ?_
            refine wpS_alloc (i := 9) (dd := 8) (z := aV (List.replicate 8 0)) (cs := (((List.replicate 8 0) : List Int).map iV).toArray) rfl (by rfl) rfl (by kernel_rfl) rfl HM63.out (covS_box 2 rfl covS_nil) rfl ?_
            rintro lb W65 hm64 hg66
            have HM67 := Lib.hid hm64
            clear hm64
            simp only [Act.put, List.setIfInBounds_toArray, List.set_cons_succ, List.set_cons_zero]
            refine wpS_nil ?_
            refine wpT_ready 10 [] (by kernel_rfl) (allT_cons ?_ allT_nil)
            refine opT_S (by kernel_rfl) ?_
            refine wpS_storeArr (i := 10) (L2 := [_, _, _, _]) is16 rfl (by rfl) rfl rfl rfl HM67.out 1 rfl rfl (List.length_replicate) (keepK_len _ _ _ 16) (covS_box 2 rfl covS_nil) rfl ?_
            rintro W69 hm68 hg70
            have HM71 := Lib.hid hm68
            clear hm68
            refine wpS_nil ?_
            refine wpT_ready 11 [] (by kernel_rfl) (allT_cons ?_ allT_nil)
            refine opT_S (by kernel_rfl) ?_
            refine wpS_storeArr (i := 11) (L2 := [_, _, _, _]) is8 rfl (by rfl) rfl rfl rfl HM71.out 1 rfl rfl (List.length_replicate) (tabN_len _) (covS_box 2 rfl covS_nil) rfl ?_
            rintro W73 hm72 hg74
            have HM75 := Lib.hid hm72
            clear hm72
            refine wpS_nil ?_
            refine wpT_end (by kernel_rfl) ?_
            refine then_normal ?_
            refine ⟨by kernel_rfl, ?_⟩
            refine ⟨_, _, rfl, rfl, ?_⟩
            have hfin := (Mem.only (M := [_, _, _, _, _]) HM75.out [4, 2, 2, 1, 0] rfl)
            rw [keep_off] at hfin
            exact hfin
          · refine opT_S (by kernel_rfl) ?_
            refine wpS_alloc (i := 9) (dd := 8) (z := aV (List.replicate 8 0)) (cs := (((List.replicate 8 0) : List Int).map iV).toArray) rfl (by rfl) rfl (by kernel_rfl) rfl HM59.out (covS_box 2 rfl covS_nil) rfl ?_
            rintro lb W77 hm76 hg78
            have HM79 := Lib.hid hm76
            clear hm76
            simp only [Act.put, List.setIfInBounds_toArray, List.set_cons_succ, List.set_cons_zero]
            refine wpS_nil ?_
            refine wpT_ready 4 [] (by kernel_rfl) (allT_cons ?_ allT_nil)
            refine opT_S (by kernel_rfl) ?_
            refine wpS_does2 (i := 4) (d := some 25) (rem := [_, _, _, _, _]) (out := [_, _, _, _, _]) rfl (by rfl) rfl Try.call22 (keep_d now M (offM M (quotaOf now M)) hok.out (fun n h => off_out _ h) (off_le17 now M)) rfl rfl HM79.out [] rfl (covS_box 3 rfl covS_nil) rfl rfl ?_
            rintro W81 hm80 hg82
            have HM83 := Lib.hid hm80
            clear hm80
            simp only [Act.put, List.setIfInBounds_toArray, List.set_cons_succ, List.set_cons_zero]
            refine wpS_nil ?_
            refine wpT_takeS (i := 5) (by kernel_rfl) (by kernel_rfl) ?_
            refine wpS_stay [5] rfl (by kernel_rfl) (by simp only [pickL, nthL, List.cons_append, List.nil_append]; rfl) ?_
            repeat (go_big_quiet_step (fail))
            refine wpQuiet_nil ?_
            refine wpS_nil ?_
            refine wpT_takeS (i := 6) (by kernel_rfl) (by kernel_rfl) ?_
            refine wpS_stay [6] rfl (by kernel_rfl) (by simp only [pickL, nthL, List.cons_append, List.nil_append]; rfl) ?_
            repeat (go_big_quiet_step (fail))
            refine wpQuiet_nil ?_
            refine wpS_nil ?_
            refine wpT_takeS (i := 7) (by kernel_rfl) (by kernel_rfl) ?_
            refine wpS_stay [7] rfl (by kernel_rfl) (by simp only [pickL, nthL, List.cons_append, List.nil_append]; rfl) ?_
            repeat (go_big_quiet_step (fail))
            refine wpQuiet_nil ?_
            refine wpS_nil ?_
            refine wpT_ready 10 [] (by kernel_rfl) (allT_cons ?_ allT_nil)
            refine opT_S (by kernel_rfl) ?_
            refine wpS_storeArr (i := 10) (L2 := [_, _, _, _]) is16 rfl (by rfl) rfl rfl rfl HM83.out 1 rfl rfl (List.length_replicate) (keepK_len _ _ _ 16) (covS_box 2 rfl covS_nil) rfl ?_
            rintro W85 hm84 hg86
            have HM87 := Lib.hid hm84
            clear hm84
            refine wpS_nil ?_
            refine wpT_ready 11 [] (by kernel_rfl) (allT_cons ?_ allT_nil)
            refine opT_S (by kernel_rfl) ?_
            refine wpS_storeArr (i := 11) (L2 := [_, _, _, _]) is8 rfl (by rfl) rfl rfl rfl HM87.out 1 rfl rfl (List.length_replicate) (tabN_len _) (covS_box 2 rfl covS_nil) rfl ?_
            rintro W89 hm88 hg90
            have HM91 := Lib.hid hm88
            clear hm88
            refine wpS_nil ?_
            refine wpT_end (by kernel_rfl) ?_
            refine then_normal ?_
            refine ⟨by kernel_rfl, ?_⟩
            refine ⟨_, _, rfl, rfl, ?_⟩
            have hfin := (Mem.only (M := [_, _, _, _, _]) HM91.out [4, 2, 2, 1, 0] rfl)
            rw [keep_off] at hfin
            exact hfin
        · refine opT_S (by kernel_rfl) ?_
          refine wpS_alloc (i := 9) (dd := 8) (z := aV (List.replicate 8 0)) (cs := (((List.replicate 8 0) : List Int).map iV).toArray) rfl (by rfl) rfl (by kernel_rfl) rfl HM19.out (covS_box 1 rfl covS_nil) rfl ?_
          rintro lb W93 hm92 hg94
          have HM95 := Lib.hid hm92
          clear hm92
          simp only [Act.put, List.setIfInBounds_toArray, List.set_cons_succ, List.set_cons_zero]
          refine wpS_nil ?_
          refine wpT_ready 4 [8] (by kernel_rfl) (allT_cons ?_ (allT_cons ?_ allT_nil))
          · refine opT_S (by kernel_rfl) ?_
            refine wpS_does2 (i := 4) (d := some 25) (rem := [_, _, _, _]) (out := [_, _, _, _]) rfl (by rfl) rfl Try.call22 (keep_d now M (offM M (quotaOf now M)) hok.out (fun n h => off_out _ h) (off_le17 now M)) rfl rfl HM95.out [] rfl (covS_box 2 rfl covS_nil) rfl rfl ?_
            rintro W97 hm96 hg98
            have HM99 := Lib.hid hm96
            clear hm96
            simp only [Act.put, List.setIfInBounds_toArray, List.set_cons_succ, List.set_cons_zero]
            refine wpS_nil ?_
            refine wpT_takeS (i := 5) (by kernel_rfl) (by kernel_rfl) ?_
            refine wpS_stay [5] rfl (by kernel_rfl) (by simp only [pickL, nthL, List.cons_append, List.nil_append]; rfl) ?_
            repeat (go_big_quiet_step (fail))
            refine wpQuiet_nil ?_
            refine wpS_nil ?_
            refine wpT_takeS (i := 6) (by kernel_rfl) (by kernel_rfl) ?_
            refine wpS_stay [6] rfl (by kernel_rfl) (by simp only [pickL, nthL, List.cons_append, List.nil_append]; rfl) ?_
            repeat (go_big_quiet_step (fail))
            refine wpQuiet_nil ?_
            refine wpS_nil ?_
            refine wpT_takeS (i := 7) (by kernel_rfl) (by kernel_rfl) ?_
            refine wpS_stay [7] rfl (by kernel_rfl) (by simp only [pickL, nthL, List.cons_append, List.nil_append]; rfl) ?_
            repeat (go_big_quiet_step (fail))
            refine wpQuiet_nil ?_
            refine wpS_nil ?_
            refine wpT_ready 8 [] (by kernel_rfl) (allT_cons ?_ allT_nil)
            refine opT_S (by kernel_rfl) ?_
            refine wpS_alloc (i := 8) (dd := 7) (z := aV (List.replicate 16 0)) (cs := (((List.replicate 16 0) : List Int).map iV).toArray) rfl (by rfl) rfl (by kernel_rfl) rfl HM99.out (covS_box 2 rfl covS_nil) rfl ?_
            rintro kb W101 hm100 hg102
            have HM103 := Lib.hid hm100
            clear hm100
            simp only [Act.put, List.setIfInBounds_toArray, List.set_cons_succ, List.set_cons_zero]
            refine wpS_nil ?_
            refine wpT_ready 10 [] (by kernel_rfl) (allT_cons ?_ allT_nil)
            refine opT_S (by kernel_rfl) ?_
            refine wpS_storeArr (i := 10) (L2 := [_, _, _, _]) is16 rfl (by rfl) rfl rfl rfl HM103.out 0 rfl rfl (List.length_replicate) (keepK_len _ _ _ 16) (covS_box 2 rfl covS_nil) rfl ?_
            rintro W105 hm104 hg106
            have HM107 := Lib.hid hm104
            clear hm104
            refine wpS_nil ?_
            refine wpT_ready 11 [] (by kernel_rfl) (allT_cons ?_ allT_nil)
            refine opT_S (by kernel_rfl) ?_
            refine wpS_storeArr (i := 11) (L2 := [_, _, _, _]) is8 rfl (by rfl) rfl rfl rfl HM107.out 1 rfl rfl (List.length_replicate) (tabN_len _) (covS_box 2 rfl covS_nil) rfl ?_
            rintro W109 hm108 hg110
            have HM111 := Lib.hid hm108
            clear hm108
            refine wpS_nil ?_
            refine wpT_end (by kernel_rfl) ?_
            refine then_normal ?_
            refine ⟨by kernel_rfl, ?_⟩
            refine ⟨_, _, rfl, rfl, ?_⟩
            have hfin := (Mem.only (M := [_, _, _, _, _]) HM111.out [4, 2, 2, 1, 0] rfl)
            rw [keep_off] at hfin
            exact hfin
          · refine opT_S (by kernel_rfl) ?_
            refine wpS_alloc (i := 8) (dd := 7) (z := aV (List.replicate 16 0)) (cs := (((List.replicate 16 0) : List Int).map iV).toArray) rfl (by rfl) rfl (by kernel_rfl) rfl HM95.out (covS_box 2 rfl covS_nil) rfl ?_
            rintro kb W113 hm112 hg114
            have HM115 := Lib.hid hm112
            clear hm112
            simp only [Act.put, List.setIfInBounds_toArray, List.set_cons_succ, List.set_cons_zero]
            refine wpS_nil ?_
            refine wpT_ready 4 [] (by kernel_rfl) (allT_cons ?_ allT_nil)
            refine opT_S (by kernel_rfl) ?_
            refine wpS_does2 (i := 4) (d := some 25) (rem := [_, _, _, _, _]) (out := [_, _, _, _, _]) rfl (by rfl) rfl Try.call22 (keep_d now M (offM M (quotaOf now M)) hok.out (fun n h => off_out _ h) (off_le17 now M)) rfl rfl HM115.out [] rfl (covS_box 3 rfl covS_nil) rfl rfl ?_
            rintro W117 hm116 hg118
            have HM119 := Lib.hid hm116
            clear hm116
            simp only [Act.put, List.setIfInBounds_toArray, List.set_cons_succ, List.set_cons_zero]
            refine wpS_nil ?_
            refine wpT_takeS (i := 5) (by kernel_rfl) (by kernel_rfl) ?_
            refine wpS_stay [5] rfl (by kernel_rfl) (by simp only [pickL, nthL, List.cons_append, List.nil_append]; rfl) ?_
            repeat (go_big_quiet_step (fail))
            refine wpQuiet_nil ?_
            refine wpS_nil ?_
            refine wpT_takeS (i := 6) (by kernel_rfl) (by kernel_rfl) ?_
            refine wpS_stay [6] rfl (by kernel_rfl) (by simp only [pickL, nthL, List.cons_append, List.nil_append]; rfl) ?_
            repeat (go_big_quiet_step (fail))
            refine wpQuiet_nil ?_
            refine wpS_nil ?_
            refine wpT_takeS (i := 7) (by kernel_rfl) (by kernel_rfl) ?_
            refine wpS_stay [7] rfl (by kernel_rfl) (by simp only [pickL, nthL, List.cons_append, List.nil_append]; rfl) ?_
            repeat (go_big_quiet_step (fail))
            refine wpQuiet_nil ?_
            refine wpS_nil ?_
            refine wpT_ready 10 [] (by kernel_rfl) (allT_cons ?_ allT_nil)
            refine opT_S (by kernel_rfl) ?_
            refine wpS_storeArr (i := 10) (L2 := [_, _, _, _]) is16 rfl (by rfl) rfl rfl rfl HM119.out 0 rfl rfl (List.length_replicate) (keepK_len _ _ _ 16) (covS_box 2 rfl covS_nil) rfl ?_
            rintro W121 hm120 hg122
            have HM123 := Lib.hid hm120
            clear hm120
            refine wpS_nil ?_
            refine wpT_ready 11 [] (by kernel_rfl) (allT_cons ?_ allT_nil)
            refine opT_S (by kernel_rfl) ?_
            refine wpS_storeArr (i := 11) (L2 := [_, _, _, _]) is8 rfl (by rfl) rfl rfl rfl HM123.out 1 rfl rfl (List.length_replicate) (tabN_len _) (covS_box 2 rfl covS_nil) rfl ?_
            rintro W125 hm124 hg126
            have HM127 := Lib.hid hm124
            clear hm124
            refine wpS_nil ?_
            refine wpT_end (by kernel_rfl) ?_
            refine then_normal ?_
            refine ⟨by kernel_rfl, ?_⟩
            refine ⟨_, _, rfl, rfl, ?_⟩
            have hfin := (Mem.only (M := [_, _, _, _, _]) HM127.out [4, 2, 2, 1, 0] rfl)
            rw [keep_off] at hfin
            exact hfin
      · refine opT_S (by kernel_rfl) ?_
        refine wpS_alloc (i := 8) (dd := 7) (z := aV (List.replicate 16 0)) (cs := (((List.replicate 16 0) : List Int).map iV).toArray) rfl (by rfl) rfl (by kernel_rfl) rfl HM15.out (covS_box 0 rfl covS_nil) rfl ?_
        rintro kb W129 hm128 hg130
        have HM131 := Lib.hid hm128
        clear hm128
        simp only [Act.put, List.setIfInBounds_toArray, List.set_cons_succ, List.set_cons_zero]
        refine wpS_nil ?_
        refine wpT_ready 3 [9] (by kernel_rfl) (allT_cons ?_ (allT_cons ?_ allT_nil))
        · refine opT_S (by kernel_rfl) ?_
          refine wpS_does2 (i := 3) (d := some 24) (rem := [_, _, _]) (out := [_, _, _, _]) rfl (by rfl) rfl Try.call23 (quotaOf_d (rowT elemI (.slice mp M.length mc) M) _ now M (fun W H h => rowAt_src (rowT_reads W H h)) hok.out hM8) rfl rfl HM131.out [3] rfl (covS_box 1 rfl covS_nil) rfl rfl ?_
          rintro W133 hm132 hg134
          have HM135 := Lib.hid hm132
          clear hm132
          simp only [Act.put, List.setIfInBounds_toArray, List.set_cons_succ, List.set_cons_zero]
          refine wpS_nil ?_
          refine wpT_ready 4 [9] (by kernel_rfl) (allT_cons ?_ (allT_cons ?_ allT_nil))
          · refine opT_S (by kernel_rfl) ?_
            refine wpS_does2 (i := 4) (d := some 25) (rem := [_, _, _, _]) (out := [_, _, _, _]) rfl (by rfl) rfl Try.call22 (keep_d now M (offM M (quotaOf now M)) hok.out (fun n h => off_out _ h) (off_le17 now M)) rfl rfl HM135.out [] rfl (covS_box 2 rfl covS_nil) rfl rfl ?_
            rintro W137 hm136 hg138
            have HM139 := Lib.hid hm136
            clear hm136
            simp only [Act.put, List.setIfInBounds_toArray, List.set_cons_succ, List.set_cons_zero]
            refine wpS_nil ?_
            refine wpT_takeS (i := 5) (by kernel_rfl) (by kernel_rfl) ?_
            refine wpS_stay [5] rfl (by kernel_rfl) (by simp only [pickL, nthL, List.cons_append, List.nil_append]; rfl) ?_
            repeat (go_big_quiet_step (fail))
            refine wpQuiet_nil ?_
            refine wpS_nil ?_
            refine wpT_takeS (i := 6) (by kernel_rfl) (by kernel_rfl) ?_
            refine wpS_stay [6] rfl (by kernel_rfl) (by simp only [pickL, nthL, List.cons_append, List.nil_append]; rfl) ?_
            repeat (go_big_quiet_step (fail))
            refine wpQuiet_nil ?_
            refine wpS_nil ?_
            refine wpT_takeS (i := 7) (by kernel_rfl) (by kernel_rfl) ?_
            refine wpS_stay [7] rfl (by kernel_rfl) (by simp only [pickL, nthL, List.cons_append, List.nil_append]; rfl) ?_
            repeat (go_big_quiet_step (fail))
            refine wpQuiet_nil ?_
            refine wpS_nil ?_
            refine wpT_ready 9 [] (by kernel_rfl) (allT_cons ?_ allT_nil)
            refine opT_S (by kernel_rfl) ?_
            refine wpS_alloc (i := 9) (dd := 8) (z := aV (List.replicate 8 0)) (cs := (((List.replicate 8 0) : List Int).map iV).toArray) rfl (by rfl) rfl (by kernel_rfl) rfl HM139.out (covS_box 2 rfl covS_nil) rfl ?_
            rintro lb W141 hm140 hg142
            have HM143 := Lib.hid hm140
            clear hm140
            simp only [Act.put, List.setIfInBounds_toArray, List.set_cons_succ, List.set_cons_zero]
            refine wpS_nil ?_
            refine wpT_ready 10 [] (by kernel_rfl) (allT_cons ?_ allT_nil)
            refine opT_S (by kernel_rfl) ?_
            refine wpS_storeArr (i := 10) (L2 := [_, _, _, _]) is16 rfl (by rfl) rfl rfl rfl HM143.out 2 rfl rfl (List.length_replicate) (keepK_len _ _ _ 16) (covS_box 2 rfl covS_nil) rfl ?_
            rintro W145 hm144 hg146
            have HM147 := Lib.hid hm144
            clear hm144
            refine wpS_nil ?_
            refine wpT_ready 11 [] (by kernel_rfl) (allT_cons ?_ allT_nil)
            refine opT_S (by kernel_rfl) ?_
            refine wpS_storeArr (i := 11) (L2 := [_, _, _, _]) is8 rfl (by rfl) rfl rfl rfl HM147.out 1 rfl rfl (List.length_replicate) (tabN_len _) (covS_box 2 rfl covS_nil) rfl ?_
            rintro W149 hm148 hg150
            have HM151 := Lib.hid hm148
            clear hm148
            refine wpS_nil ?_
            refine wpT_end (by kernel_rfl) ?_
            refine then_normal ?_
            refine ⟨by kernel_rfl, ?_⟩
            refine ⟨_, _, rfl, rfl, ?_⟩
            have hfin := (Mem.only (M := [_, _, _, _, _]) HM151.out [4, 2, 2, 1, 0] rfl)
            rw [keep_off] at hfin
            exact hfin
          · refine opT_S (by kernel_rfl) ?_
            refine wpS_alloc (i := 9) (dd := 8) (z := aV (List.replicate 8 0)) (cs := (((List.replicate 8 0) : List Int).map iV).toArray) rfl (by rfl) rfl (by kernel_rfl) rfl HM135.out (covS_box 2 rfl covS_nil) rfl ?_
            rintro lb W153 hm152 hg154
            have HM155 := Lib.hid hm152
            clear hm152
            simp only [Act.put, List.setIfInBounds_toArray, List.set_cons_succ, List.set_cons_zero]
            refine wpS_nil ?_
            refine wpT_ready 4 [] (by kernel_rfl) (allT_cons ?_ allT_nil)
            refine opT_S (by kernel_rfl) ?_
            refine wpS_does2 (i := 4) (d := some 25) (rem := [_, _, _, _, _]) (out := [_, _, _, _, _]) rfl (by rfl) rfl Try.call22 (keep_d now M (offM M (quotaOf now M)) hok.out (fun n h => off_out _ h) (off_le17 now M)) rfl rfl HM155.out [] rfl (covS_box 3 rfl covS_nil) rfl rfl ?_
            rintro W157 hm156 hg158
            have HM159 := Lib.hid hm156
            clear hm156
            simp only [Act.put, List.setIfInBounds_toArray, List.set_cons_succ, List.set_cons_zero]
            refine wpS_nil ?_
            refine wpT_takeS (i := 5) (by kernel_rfl) (by kernel_rfl) ?_
            refine wpS_stay [5] rfl (by kernel_rfl) (by simp only [pickL, nthL, List.cons_append, List.nil_append]; rfl) ?_
            repeat (go_big_quiet_step (fail))
            refine wpQuiet_nil ?_
            refine wpS_nil ?_
            refine wpT_takeS (i := 6) (by kernel_rfl) (by kernel_rfl) ?_
            refine wpS_stay [6] rfl (by kernel_rfl) (by simp only [pickL, nthL, List.cons_append, List.nil_append]; rfl) ?_
            repeat (go_big_quiet_step (fail))
            refine wpQuiet_nil ?_
            refine wpS_nil ?_
            refine wpT_takeS (i := 7) (by kernel_rfl) (by kernel_rfl) ?_
            refine wpS_stay [7] rfl (by kernel_rfl) (by simp only [pickL, nthL, List.cons_append, List.nil_append]; rfl) ?_
            repeat (go_big_quiet_step (fail))
            refine wpQuiet_nil ?_
            refine wpS_nil ?_
            refine wpT_ready 10 [] (by kernel_rfl) (allT_cons ?_ allT_nil)
            refine opT_S (by kernel_rfl) ?_
            refine wpS_storeArr (i := 10) (L2 := [_, _, _, _]) is16 rfl (by rfl) rfl rfl rfl HM159.out 2 rfl rfl (List.length_replicate) (keepK_len _ _ _ 16) (covS_box 2 rfl covS_nil) rfl ?_
            rintro W161 hm160 hg162
            have HM163 := Lib.hid hm160
            clear hm160
            refine wpS_nil ?_
            refine wpT_ready 11 [] (by kernel_rfl) (allT_cons ?_ allT_nil)
            refine opT_S (by kernel_rfl) ?_
            refine wpS_storeArr (i := 11) (L2 := [_, _, _, _]) is8 rfl (by rfl) rfl rfl rfl HM163.out 1 rfl rfl (List.length_replicate) (tabN_len _) (covS_box 2 rfl covS_nil) rfl ?_
            rintro W165 hm164 hg166
            have HM167 := Lib.hid hm164
            clear hm164
            refine wpS_nil ?_
            refine wpT_end (by kernel_rfl) ?_
            refine then_normal ?_
            refine ⟨by kernel_rfl, ?_⟩
            refine ⟨_, _, rfl, rfl, ?_⟩
            have hfin := (Mem.only (M := [_, _, _, _, _]) HM167.out [4, 2, 2, 1, 0] rfl)
            rw [keep_off] at hfin
            exact hfin
        · refine opT_S (by kernel_rfl) ?_
          refine wpS_alloc (i := 9) (dd := 8) (z := aV (List.replicate 8 0)) (cs := (((List.replicate 8 0) : List Int).map iV).toArray) rfl (by rfl) rfl (by kernel_rfl) rfl HM131.out (covS_box 1 rfl covS_nil) rfl ?_
          rintro lb W169 hm168 hg170
          have HM171 := Lib.hid hm168
          clear hm168
          simp only [Act.put, List.setIfInBounds_toArray, List.set_cons_succ, List.set_cons_zero]
          refine wpS_nil ?_
          refine wpT_ready 3 [] (by kernel_rfl) (allT_cons ?_ allT_nil)
          refine opT_S (by kernel_rfl) ?_
          refine wpS_does2 (i := 3) (d := some 24) (rem := [_, _, _, _]) (out := [_, _, _, _, _]) rfl (by rfl) rfl Try.call23 (quotaOf_d (rowT elemI (.slice mp M.length mc) M) _ now M (fun W H h => rowAt_src (rowT_reads W H h)) hok.out hM8) rfl rfl HM171.out [4] rfl (covS_box 2 rfl covS_nil) rfl rfl ?_
          rintro W173 hm172 hg174
          have HM175 := Lib.hid hm172
          clear hm172
          simp only [Act.put, List.setIfInBounds_toArray, List.set_cons_succ, List.set_cons_zero]
          refine wpS_nil ?_
          refine wpT_ready 4 [] (by kernel_rfl) (allT_cons ?_ allT_nil)
          refine opT_S (by kernel_rfl) ?_
          refine wpS_does2 (i := 4) (d := some 25) (rem := [_, _, _, _, _]) (out := [_, _, _, _, _]) rfl (by rfl) rfl Try.call22 (keep_d now M (offM M (quotaOf now M)) hok.out (fun n h => off_out _ h) (off_le17 now M)) rfl rfl HM175.out [] rfl (covS_box 3 rfl covS_nil) rfl rfl ?_
          rintro W177 hm176 hg178
          have HM179 := Lib.hid hm176
          clear hm176
          simp only [Act.put, List.setIfInBounds_toArray, List.set_cons_succ, List.set_cons_zero]
          refine wpS_nil ?_
          refine wpT_takeS (i := 5) (by kernel_rfl) (by kernel_rfl) ?_
          refine wpS_stay [5] rfl (by kernel_rfl) (by simp only [pickL, nthL, List.cons_append, List.nil_append]; rfl) ?_
          repeat (go_big_quiet_step (fail))
          refine wpQuiet_nil ?_
          refine wpS_nil ?_
          refine wpT_takeS (i := 6) (by kernel_rfl) (by kernel_rfl) ?_
          refine wpS_stay [6] rfl (by kernel_rfl) (by simp only [pickL, nthL, List.cons_append, List.nil_append]; rfl) ?_
          repeat (go_big_quiet_step (fail))
          refine wpQuiet_nil ?_
          refine wpS_nil ?_
          refine wpT_takeS (i := 7) (by kernel_rfl) (by kernel_rfl) ?_
          refine wpS_stay [7] rfl (by kernel_rfl) (by simp only [pickL, nthL, List.cons_append, List.nil_append]; rfl) ?_
          repeat (go_big_quiet_step (fail))
          refine wpQuiet_nil ?_
          refine wpS_nil ?_
          refine wpT_ready 10 [] (by kernel_rfl) (allT_cons ?_ allT_nil)
          refine opT_S (by kernel_rfl) ?_
          refine wpS_storeArr (i := 10) (L2 := [_, _, _, _]) is16 rfl (by rfl) rfl rfl rfl HM179.out 2 rfl rfl (List.length_replicate) (keepK_len _ _ _ 16) (covS_box 2 rfl covS_nil) rfl ?_
          rintro W181 hm180 hg182
          have HM183 := Lib.hid hm180
          clear hm180
          refine wpS_nil ?_
          refine wpT_ready 11 [] (by kernel_rfl) (allT_cons ?_ allT_nil)
          refine opT_S (by kernel_rfl) ?_
          refine wpS_storeArr (i := 11) (L2 := [_, _, _, _]) is8 rfl (by rfl) rfl rfl rfl HM183.out 2 rfl rfl (List.length_replicate) (tabN_len _) (covS_box 2 rfl covS_nil) rfl ?_
          rintro W185 hm184 hg186
          have HM187 := Lib.hid hm184
          clear hm184
          refine wpS_nil ?_
          refine wpT_end (by kernel_rfl) ?_
          refine then_normal ?_
          refine ⟨by kernel_rfl, ?_⟩
          refine ⟨_, _, rfl, rfl, ?_⟩
          have hfin := (Mem.only (M := [_, _, _, _, _]) HM187.out [4, 2, 2, 1, 0] rfl)
          rw [keep_off] at hfin
          exact hfin
      · refine opT_S (by kernel_rfl) ?_
        refine wpS_alloc (i := 9) (dd := 8) (z := aV (List.replicate 8 0)) (cs := (((List.replicate 8 0) : List Int).map iV).toArray) rfl (by rfl) rfl (by kernel_rfl) rfl HM15.out (covS_box 0 rfl covS_nil) rfl ?_
        rintro lb W189 hm188 hg190
        have HM191 := Lib.hid hm188
        clear hm188
        simp only [Act.put, List.setIfInBounds_toArray, List.set_cons_succ, List.set_cons_zero]
        refine wpS_nil ?_
        refine wpT_ready 3 [8] (by kernel_rfl) (allT_cons ?_ (allT_cons ?_ allT_nil))
        · refine opT_S (by kernel_rfl) ?_
          refine wpS_does2 (i := 3) (d := some 24) (rem := [_, _, _]) (out := [_, _, _, _]) rfl (by rfl) rfl Try.call23 (quotaOf_d (rowT elemI (.slice mp M.length mc) M) _ now M (fun W H h => rowAt_src (rowT_reads W H h)) hok.out hM8) rfl rfl HM191.out [3] rfl (covS_box 1 rfl covS_nil) rfl rfl ?_
          rintro W193 hm192 hg194
          have HM195 := Lib.hid hm192
          clear hm192
          simp only [Act.put, List.setIfInBounds_toArray, List.set_cons_succ, List.set_cons_zero]
          refine wpS_nil ?_
          refine wpT_ready 4 [8] (by kernel_rfl) (allT_cons ?_ (allT_cons ?_ allT_nil))
          · refine opT_S (by kernel_rfl) ?_
            refine wpS_does2 (i := 4) (d := some 25) (rem := [_, _, _, _]) (out := [_, _, _, _]) rfl (by rfl) rfl Try.call22 (keep_d now M (offM M (quotaOf now M)) hok.out (fun n h => off_out _ h) (off_le17 now M)) rfl rfl HM195.out [] rfl (covS_box 2 rfl covS_nil) rfl rfl ?_
            rintro W197 hm196 hg198
            have HM199 := Lib.hid hm196
            clear hm196
            simp only [Act.put, List.setIfInBounds_toArray, List.set_cons_succ, List.set_cons_zero]
            refine wpS_nil ?_
            refine wpT_takeS (i := 5) (by kernel_rfl) (by kernel_rfl) ?_
            refine wpS_stay [5] rfl (by kernel_rfl) (by simp only [pickL, nthL, List.cons_append, List.nil_append]; rfl) ?_
            repeat (go_big_quiet_step (fail))
            refine wpQuiet_nil ?_
            refine wpS_nil ?_
            refine wpT_takeS (i := 6) (by kernel_rfl) (by kernel_rfl) ?_
            refine wpS_stay [6] rfl (by kernel_rfl) (by simp only [pickL, nthL, List.cons_append, List.nil_append]; rfl) ?_
            repeat (go_big_quiet_step (fail))
            refine wpQuiet_nil ?_
            refine wpS_nil ?_
            refine wpT_takeS (i := 7) (by kernel_rfl) (by kernel_rfl) ?_
            refine wpS_stay [7] rfl (by kernel_rfl) (by simp only [pickL, nthL, List.cons_append, List.nil_append]; rfl) ?_
            repeat (go_big_quiet_step (fail))
            refine wpQuiet_nil ?_
            refine wpS_nil ?_
            refine wpT_ready 8 [] (by kernel_rfl) (allT_cons ?_ allT_nil)
            refine opT_S (by kernel_rfl) ?_
            refine wpS_alloc (i := 8) (dd := 7) (z := aV (List.replicate 16 0)) (cs := (((List.replicate 16 0) : List Int).map iV).toArray) rfl (by rfl) rfl (by kernel_rfl) rfl HM199.out (covS_box 2 rfl covS_nil) rfl ?_
            rintro kb W201 hm200 hg202
            have HM203 := Lib.hid hm200
            clear hm200
            simp only [Act.put, List.setIfInBounds_toArray, List.set_cons_succ, List.set_cons_zero]
            refine wpS_nil ?_
            refine wpT_ready 10 [] (by kernel_rfl) (allT_cons ?_ allT_nil)
            refine opT_S (by kernel_rfl) ?_
            refine wpS_storeArr (i := 10) (L2 := [_, _, _, _]) is16 rfl (by rfl) rfl rfl rfl HM203.out 0 rfl rfl (List.length_replicate) (keepK_len _ _ _ 16) (covS_box 2 rfl covS_nil) rfl ?_
            rintro W205 hm204 hg206
            have HM207 := Lib.hid hm204
            clear hm204
            refine wpS_nil ?_
            refine wpT_ready 11 [] (by kernel_rfl) (allT_cons ?_ allT_nil)
            refine opT_S (by kernel_rfl) ?_
            refine wpS_storeArr (i := 11) (L2 := [_, _, _, _]) is8 rfl (by rfl) rfl rfl rfl HM207.out 2 rfl rfl (List.length_replicate) (tabN_len _) (covS_box 2 rfl covS_nil) rfl ?_
            rintro W209 hm208 hg210
            have HM211 := Lib.hid hm208
            clear hm208
            refine wpS_nil ?_
            refine wpT_end (by kernel_rfl) ?_
            refine then_normal ?_
            refine ⟨by kernel_rfl, ?_⟩
            refine ⟨_, _, rfl, rfl, ?_⟩
            have hfin := (Mem.only (M := [_, _, _, _, _]) HM211.out [4, 2, 2, 1, 0] rfl)
            rw [keep_off] at hfin
            exact hfin
          · refine opT_S (by kernel_rfl) ?_
            refine wpS_alloc (i := 8) (dd := 7) (z := aV (List.replicate 16 0)) (cs := (((List.replicate 16 0) : List Int).map iV).toArray) rfl (by rfl) rfl (by kernel_rfl) rfl HM195.out (covS_box 2 rfl covS_nil) rfl ?_
            rintro kb W213 hm212 hg214
            have HM215 := Lib.hid hm212
            clear hm212
            simp only [Act.put, List.setIfInBounds_toArray, List.set_cons_succ, List.set_cons_zero]
            refine wpS_nil ?_
            refine wpT_ready 4 [] (by kernel_rfl) (allT_cons ?_ allT_nil)
            refine opT_S (by kernel_rfl) ?_
            refine wpS_does2 (i := 4) (d := some 25) (rem := [_, _, _, _, _]) (out := [_, _, _, _, _]) rfl (by rfl) rfl Try.call22 (keep_d now M (offM M (quotaOf now M)) hok.out (fun n h => off_out _ h) (off_le17 now M)) rfl rfl HM215.out [] rfl (covS_box 3 rfl covS_nil) rfl rfl ?_
            rintro W217 hm216 hg218
            have HM219 := Lib.hid hm216
            clear hm216
            simp only [Act.put, List.setIfInBounds_toArray, List.set_cons_succ, List.set_cons_zero]
            refine wpS_nil ?_
            refine wpT_takeS (i := 5) (by kernel_rfl) (by kernel_rfl) ?_
            refine wpS_stay [5] rfl (by kernel_rfl) (by simp only [pickL, nthL, List.cons_append, List.nil_append]; rfl) ?_
            repeat (go_big_quiet_step (fail))
            refine wpQuiet_nil ?_
            refine wpS_nil ?_
            refine wpT_takeS (i := 6) (by kernel_rfl) (by kernel_rfl) ?_
            refine wpS_stay [6] rfl (by kernel_rfl) (by simp only [pickL, nthL, List.cons_append, List.nil_append]; rfl) ?_
            repeat (go_big_quiet_step (fail))
            refine wpQuiet_nil ?_
            refine wpS_nil ?_
            refine wpT_takeS (i := 7) (by kernel_rfl) (by kernel_rfl) ?_
            refine wpS_stay [7] rfl (by kernel_rfl) (by simp only [pickL, nthL, List.cons_append, List.nil_append]; rfl) ?_
            repeat (go_big_quiet_step (fail))
            refine wpQuiet_nil ?_
            refine wpS_nil ?_
            refine wpT_ready 10 [] (by kernel_rfl) (allT_cons ?_ allT_nil)
            refine opT_S (by kernel_rfl) ?_
            refine wpS_storeArr (i := 10) (L2 := [_, _, _, _]) is16 rfl (by rfl) rfl rfl rfl HM219.out 0 rfl rfl (List.length_replicate) (keepK_len _ _ _ 16) (covS_box 2 rfl covS_nil) rfl ?_
            rintro W221 hm220 hg222
            have HM223 := Lib.hid hm220
            clear hm220
            refine wpS_nil ?_
            refine wpT_ready 11 [] (by kernel_rfl) (allT_cons ?_ allT_nil)
            refine opT_S (by kernel_rfl) ?_
            refine wpS_storeArr (i := 11) (L2 := [_, _, _, _]) is8 rfl (by rfl) rfl rfl rfl HM223.out 2 rfl rfl (List.length_replicate) (tabN_len _) (covS_box 2 rfl covS_nil) rfl ?_
            rintro W225 hm224 hg226
            have HM227 := Lib.hid hm224
            clear hm224
            refine wpS_nil ?_
            refine wpT_end (by kernel_rfl) ?_
            refine then_normal ?_
            refine ⟨by kernel_rfl, ?_⟩
            refine ⟨_, _, rfl, rfl, ?_⟩
            have hfin := (Mem.only (M := [_, _, _, _, _]) HM227.out [4, 2, 2, 1, 0] rfl)
            rw [keep_off] at hfin
            exact hfin
        · refine opT_S (by kernel_rfl) ?_
          refine wpS_alloc (i := 8) (dd := 7) (z := aV (List.replicate 16 0)) (cs := (((List.replicate 16 0) : List Int).map iV).toArray) rfl (by rfl) rfl (by kernel_rfl) rfl HM191.out (covS_box 1 rfl covS_nil) rfl ?_
          rintro kb W229 hm228 hg230
          have HM231 := Lib.hid hm228
          clear hm228
          simp only [Act.put, List.setIfInBounds_toArray, List.set_cons_succ, List.set_cons_zero]
          refine wpS_nil ?_
          refine wpT_ready 3 [] (by kernel_rfl) (allT_cons ?_ allT_nil)
          refine opT_S (by kernel_rfl) ?_
          refine wpS_does2 (i := 3) (d := some 24) (rem := [_, _, _, _]) (out := [_, _, _, _, _]) rfl (by rfl) rfl Try.call23 (quotaOf_d (rowT elemI (.slice mp M.length mc) M) _ now M (fun W H h => rowAt_src (rowT_reads W H h)) hok.out hM8) rfl rfl HM231.out [4] rfl (covS_box 2 rfl covS_nil) rfl rfl ?_
          rintro W233 hm232 hg234
          have HM235 := Lib.hid hm232
          clear hm232
          simp only [Act.put, List.setIfInBounds_toArray, List.set_cons_succ, List.set_cons_zero]
          refine wpS_nil ?_
          refine wpT_ready 4 [] (by kernel_rfl) (allT_cons ?_ allT_nil)
          refine opT_S (by kernel_rfl) ?_
          refine wpS_does2 (i := 4) (d := some 25) (rem := [_, _, _, _, _]) (out := [_, _, _, _, _]) rfl (by rfl) rfl Try.call22 (keep_d now M (offM M (quotaOf now M)) hok.out (fun n h => off_out _ h) (off_le17 now M)) rfl rfl HM235.out [] rfl (covS_box 3 rfl covS_nil) rfl rfl ?_
          rintro W237 hm236 hg238
          have HM239 := Lib.hid hm236
          clear hm236
          simp only [Act.put, List.setIfInBounds_toArray, List.set_cons_succ, List.set_cons_zero]
          refine wpS_nil ?_
          refine wpT_takeS (i := 5) (by kernel_rfl) (by kernel_rfl) ?_
          refine wpS_stay [5] rfl (by kernel_rfl) (by simp only [pickL, nthL, List.cons_append, List.nil_append]; rfl) ?_
          repeat (go_big_quiet_step (fail))
          refine wpQuiet_nil ?_
          refine wpS_nil ?_
          refine wpT_takeS (i := 6) (by kernel_rfl) (by kernel_rfl) ?_
          refine wpS_stay [6] rfl (by kernel_rfl) (by simp only [pickL, nthL, List.cons_append, List.nil_append]; rfl) ?_
          repeat (go_big_quiet_step (fail))
          refine wpQuiet_nil ?_
          refine wpS_nil ?_
          refine wpT_takeS (i := 7) (by kernel_rfl) (by kernel_rfl) ?_
          refine wpS_stay [7] rfl (by kernel_rfl) (by simp only [pickL, nthL, List.cons_append, List.nil_append]; rfl) ?_
          repeat (go_big_quiet_step (fail))
          refine wpQuiet_nil ?_
          refine wpS_nil ?_
          refine wpT_ready 10 [] (by kernel_rfl) (allT_cons ?_ allT_nil)
          refine opT_S (by kernel_rfl) ?_
          refine wpS_storeArr (i := 10) (L2 := [_, _, _, _]) is16 rfl (by rfl) rfl rfl rfl HM239.out 1 rfl rfl (List.length_replicate) (keepK_len _ _ _ 16) (covS_box 2 rfl covS_nil) rfl ?_
          rintro W241 hm240 hg242
          have HM243 := Lib.hid hm240
          clear hm240
          refine wpS_nil ?_
          refine wpT_ready 11 [] (by kernel_rfl) (allT_cons ?_ allT_nil)
          refine opT_S (by kernel_rfl) ?_
          refine wpS_storeArr (i := 11) (L2 := [_, _, _, _]) is8 rfl (by rfl) rfl rfl rfl HM243.out 2 rfl rfl (List.length_replicate) (tabN_len _) (covS_box 2 rfl covS_nil) rfl ?_
          rintro W245 hm244 hg246
          have HM247 := Lib.hid hm244
          clear hm244
          refine wpS_nil ?_
          refine wpT_end (by kernel_rfl) ?_
          refine then_normal ?_
          refine ⟨by kernel_rfl, ?_⟩
          refine ⟨_, _, rfl, rfl, ?_⟩
          have hfin := (Mem.only (M := [_, _, _, _, _]) HM247.out [4, 2, 2, 1, 0] rfl)
          rw [keep_off] at hfin
          exact hfin
    rintro vs W' ⟨kb, lb, e7, e8, hm⟩
    simp only [putAll, List.map_cons, List.map_nil, Act.put, List.setIfInBounds_toArray, List.set_cons_succ, List.set_cons_zero]
    rw [e7, e8]
    clear e7 e8
    have HM248 := Lib.hid hm
    clear hm
    refine then_normal ?_
    refine wp_seq ?_
    refine wp_seq ?_
    refine wp_region_N [(0, 1)] (by kernel_rfl) ?_
    refine wpS_this [0] rfl (by kernel_rfl) (by simp only [pickL, nthL, List.cons_append, List.nil_append]; rfl) ?_
    repeat (go_big_quiet_step (fail))
    refine wpQuiet_nil ?_
    refine wpS_nil ?_
    refine then_normal ?_
    refine wp_block ?_
    refine wp_loop_F [9, 10, 11, 12, 28, 29, 30, 31, 32, 33, 34, 35, 36, 37, 38, 39, 40, 41, 42, 43, 44, 45, 46, 47, 48, 49, 50, 51, 52, 53, 54, 55, 56, 57, 58] (fun n vs W' => ∃ k : Nat, n = 16 - k ∧ vs 28 = .int .i64 (k : Int) ∧ k ≤ 16 ∧ Mem [R, rowT elemI (.slice mp M.length mc) M, arrT ob 34 (ownL now), arrT kb 34 (gB now M k).1, arrT lb 37 (tabN (offM M (gB now M k).2))] H w W') (n0 := 16) ?_ ?_
    · exact ⟨0, rfl, rfl, Nat.zero_le _, (Mem.only (M := [_, _, _, _, _]) HM248.out [0, 0, 0, 0, 0] rfl)⟩
    rintro n vs W' ⟨k, rfl, e28, hk, hmm⟩
    simp only [putAll, List.map_cons, List.map_nil, Act.put, List.setIfInBounds_toArray, List.set_cons_succ, List.set_cons_zero]
    rw [e28]
    clear e28
    have hG := gB_gives (now := now) hok.out hne.out hk
    obtain ⟨O2, hO2'⟩ : ∃ z : List Int, (gB now M k).1 = z := ⟨_, rfl⟩
    rw [hO2'] at hmm hG
    obtain ⟨L3, hL3'⟩ : ∃ z : Int → Int, (gB now M k).2 = z := ⟨_, rfl⟩
    rw [hL3'] at hmm hG
    have hO2n : O2.length = 16 := hG.len
    have hG := Lib.hid hG
    have hO2 := Lib.hid hO2'
    clear hO2'
    have hL3 := Lib.hid hL3'
    clear hL3'
    have HM249 := Lib.hid hmm
    clear hmm
    refine wp_seq ?_
    refine wp_region_N [(0, 1)] (by kernel_rfl) ?_
    refine wpS_this [0] rfl (by kernel_rfl) (by simp only [pickL, nthL, List.cons_append, List.nil_append]; rfl) ?_
    repeat (go_big_quiet_step (fail))
    refine wpQuiet_nil ?_
    refine wpS_nil ?_
    refine then_normal ?_
    refine wp_seq ?_
    refine wp_cond_split rfl (fun h250 => ?_) (fun h250 => ?_)
    · have hk1 : k + 1 ≤ 16 := by have : (k : Int) < ((16 : Nat) : Int) := (by simpa using h250); omega
      clear h250
      obtain ⟨x, hx'⟩ : ∃ y, O2[k]? = some y := ⟨_, List.getElem?_eq_getElem (by omega)⟩
      have hx := Lib.hid hx'
      clear hx'
      refine wp_skip ?_
      refine then_normal ?_
      refine wp_seq ?_
      refine wp_block ?_
      refine wp_seq ?_
      refine wp_region_N [(0, 1), (1, 1)] (by kernel_rfl) ?_
      refine wpS_this [0, 1] rfl (by kernel_rfl) (by simp only [pickL, nthL, List.cons_append, List.nil_append]; rfl) ?_
      repeat (go_big_quiet_step (fail))
      refine wpQuiet_nil ?_
      refine wpS_nil ?_
      refine then_normal ?_
      refine wp_seq ?_
      refine wp_seq ?_
      rcases hG.out.each k x hx.out with hx1 | hx1
      · subst hx1
        obtain ⟨k1, hj1'⟩ : ∃ j, (k + 15) % 16 = j := ⟨_, rfl⟩
        have k1l : k1 < 16 := by omega
        have hj1 := Lib.hid hj1'
        obtain ⟨av, hav'⟩ : ∃ y, O2[k1]? = some y := ⟨_, List.getElem?_eq_getElem (by omega)⟩
        have hrav : av = -1 ∨ (0 ≤ av ∧ av < 8) := (hG.out.each k1 av hav').imp id fun h => hok.out.node _ h
        have hrav := Lib.hid hrav
        have hav := Lib.hid hav'
        clear hav'
        obtain ⟨k2, hj2'⟩ : ∃ j, (k + 1) % 16 = j := ⟨_, rfl⟩
        have k2l : k2 < 16 := by omega
        have hj2 := Lib.hid hj2'
        obtain ⟨bv, hbv'⟩ : ∃ y, O2[k2]? = some y := ⟨_, List.getElem?_eq_getElem (by omega)⟩
        have hrbv : bv = -1 ∨ (0 ≤ bv ∧ bv < 8) := (hG.out.each k2 bv hbv').imp id fun h => hok.out.node _ h
        have hrbv := Lib.hid hrbv
        have hbv := Lib.hid hbv'
        clear hbv'
        refine wp_region_N [(0, 1), (1, 1), (2, 1), (3, 1)] (by kernel_rfl) ?_
        refine wpS_this [0] rfl (by kernel_rfl) (by simp only [pickL, nthL, List.cons_append, List.nil_append]; rfl) ?_
        repeat (go_big_quiet_step (fail))
        refine wpQuiet_nil ?_
        refine wpS_addrArr (i := 1) (d := some 32) (b := kb) (j := k) is16 rfl (by rfl) rfl rfl rfl (by omega) rfl ?_
        simp only [Act.put, List.setIfInBounds_toArray, List.set_cons_succ, List.set_cons_zero]
        refine wpS_loadEl (i := 2) (d := some 33) (y := (-1)) rfl (by rfl) rfl rfl (HM249.out.arr 3 rfl (hx.out)) rfl ?_
        simp only [Act.put, List.setIfInBounds_toArray, List.set_cons_succ, List.set_cons_zero]
        refine wpS_this [3] rfl (by kernel_rfl) (by simp only [pickL, nthL, List.cons_append, List.nil_append]; rfl) ?_
        repeat (go_big_quiet_step (fail))
        refine wpQuiet_nil ?_
        refine wpS_nil ?_
        refine then_normal ?_
        refine wp_cond_false rfl ?_
        refine wp_skip ?_
        refine then_normal ?_
        refine wp_seq ?_
        refine wp_region_M (fun k => k ∈ ([] : List Nat)) [(0, 1), (1, 1), (2, 1), (3, 1), (4, 1), (5, 1), (6, 1), (7, 1), (8, 1), (9, 1), (10, 1), (11, 1), (12, 1)] (by kernel_rfl) (by kernel_rfl) HM249.out ?_
        intro W251 hm252
        have HM253 := Lib.hid hm252
        clear hm252
        refine wpS_this [0, 1, 2, 3] rfl (by kernel_rfl) (by simp only [pickL, nthL, List.cons_append, List.nil_append]; rfl) ?_
        repeat (go_big_quiet_step (fail))
        refine wpQuiet_nil ?_
        rw [show ((k : Int) + 16 - 1) % 16 = ((k1 : Nat) : Int) from by omega]
        refine wpS_addrArr (i := 4) (d := some 39) (b := kb) (j := k1) is16 rfl (by rfl) rfl rfl rfl (by omega) rfl ?_
        simp only [Act.put, List.setIfInBounds_toArray, List.set_cons_succ, List.set_cons_zero]
        refine wpS_loadEl (i := 5) (d := some 40) (y := av) rfl (by rfl) rfl rfl (HM253.out.arr 3 rfl (hav.out)) rfl ?_
        simp only [Act.put, List.setIfInBounds_toArray, List.set_cons_succ, List.set_cons_zero]
        refine wpS_this [6, 7, 8] rfl (by kernel_rfl) (by simp only [pickL, nthL, List.cons_append, List.nil_append]; rfl) ?_
        repeat (go_big_quiet_step (fail))
        refine wpQuiet_nil ?_
        rw [show ((k : Int) + 1) % 16 = ((k2 : Nat) : Int) from by omega]
        refine wpS_addrArr (i := 9) (d := some 44) (b := kb) (j := k2) is16 rfl (by rfl) rfl rfl rfl (by omega) rfl ?_
        simp only [Act.put, List.setIfInBounds_toArray, List.set_cons_succ, List.set_cons_zero]
        refine wpS_loadEl (i := 10) (d := some 45) (y := bv) rfl (by rfl) rfl rfl (HM253.out.arr 3 rfl (hbv.out)) rfl ?_
        simp only [Act.put, List.setIfInBounds_toArray, List.set_cons_succ, List.set_cons_zero]
        refine wpS_this [11, 12] rfl (by kernel_rfl) (by simp only [pickL, nthL, List.cons_append, List.nil_append]; rfl) ?_
        repeat (go_big_quiet_step (fail))
        refine wpQuiet_nil ?_
        refine wpS_nil ?_
        refine then_normal ?_
        refine wp_seq ?_
        have hz0 : True := trivial
        · have hex : ∃ n ∈ M, 0 < L3 n := sum_pos (by rw [hG.out.sum]; exact_mod_cast List.count_pos_iff.2 (List.mem_of_getElem? hx.out))
          obtain ⟨nn, hpk'⟩ := pickI_has av bv hex
          obtain ⟨hnM', hnp⟩ := pickI_in hpk'
          have hnr := hok.out.node nn hnM'
          obtain ⟨jn, rfl⟩ : ∃ j : Nat, nn = (j : Int) := ⟨nn.toNat, by omega⟩
          have htk : takeI (offM M L3) av bv = (jn : Int) := (take_pick hasc.out hok.out L3 av bv).trans (by rw [hpk']; rfl)
          obtain ⟨lw, hlw'⟩ : ∃ z : Int, L3 (jn : Int) = z := ⟨_, rfl⟩
          rw [hlw'] at hnp
          have hlw2 : lw ≤ 17 := by
              rw [← hlw']
              have h1 := hG.out.le (jn : Int)
              have h2 := keep_bound (now := now) hok.out (k := 16) hnM'
              omega
          have hlw := Lib.hid hlw'
          clear hlw'
          have hpk := Lib.hid hpk'
          clear hpk'
          have hnM := Lib.hid hnM'
          clear hnM'
          clear hex hj1' hj2'
          refine wp_region_N [(0, 1), (1, 1), (2, 1), (3, 3), (4, 1)] (by kernel_rfl) ?_
          refine wpS_loadArr (i := 0) (d := some 46) is8 rfl (by rfl) rfl rfl HM253.out 4 rfl (tabN_len _) rfl ?_
          simp only [Act.put, List.setIfInBounds_toArray, List.set_cons_succ, List.set_cons_zero]
          refine wpS_this [1, 2] rfl (by kernel_rfl) (by simp only [pickL, nthL, List.cons_append, List.nil_append]; rfl) ?_
          repeat (go_big_quiet_step (fail))
          refine wpQuiet_nil ?_
          refine wpS_does3 (i := 3) (d := some 49) (rem := [_, _, _, _, _]) (out := [_, _, _, _, _]) rfl (by rfl) rfl Try.call24 (taker_d (offM M L3) av bv hrav.out hrbv.out) rfl rfl rfl HM253.out [] rfl covS_nil rfl rfl ?_
          rintro W255 hm254 -
          rw [htk]
          have HM256 := Lib.hid hm254
          clear hm254
          simp only [Act.put, List.setIfInBounds_toArray, List.set_cons_succ, List.set_cons_zero]
          refine wpS_this [4] rfl (by kernel_rfl) (by simp only [pickL, nthL, List.cons_append, List.nil_append]; rfl) ?_
          repeat (go_big_quiet_step (fail))
          refine wpQuiet_nil ?_
          refine wpS_nil ?_
          refine then_normal ?_
          refine wp_seq ?_
          refine wp_region_N [(0, 1), (1, 1), (2, 1), (3, 3)] (by kernel_rfl) ?_
          refine wpS_this [0, 1] rfl (by kernel_rfl) (by simp only [pickL, nthL, List.cons_append, List.nil_append]; rfl) ?_
          repeat (go_big_quiet_step (fail))
          refine wpQuiet_nil ?_
          refine wpS_addrArr (i := 2) (d := some 52) (b := kb) (j := k) is16 rfl (by rfl) rfl rfl rfl (by omega) rfl ?_
          simp only [Act.put, List.setIfInBounds_toArray, List.set_cons_succ, List.set_cons_zero]
          refine wpS_setEl (i := 3) (z := (jn : Int)) (L2 := [_, _, _, _]) rfl (by rfl) rfl rfl rfl HM256.out 3 rfl rfl (by omega) covS_nil rfl ?_
          rintro W258 hm257 -
          have HM259 := Lib.hid hm257
          clear hm257
          refine wpS_nil ?_
          refine then_normal ?_
          refine wp_region_N [(0, 1), (1, 1), (2, 1), (3, 1), (4, 1), (5, 3)] (by kernel_rfl) ?_
          refine wpS_this [0] rfl (by kernel_rfl) (by simp only [pickL, nthL, List.cons_append, List.nil_append]; rfl) ?_
          repeat (go_big_quiet_step (fail))
          refine wpQuiet_nil ?_
          refine wpS_addrArr (i := 1) (d := some 54) (b := lb) (j := jn) is8 rfl (by rfl) rfl rfl rfl (by omega) rfl ?_
          simp only [Act.put, List.setIfInBounds_toArray, List.set_cons_succ, List.set_cons_zero]
          refine wpS_loadEl (i := 2) (d := some 55) (y := lw) rfl (by rfl) rfl rfl (HM259.out.arr 4 rfl (by rw [tabN_at _ (by omega), off_in _ hnM.out, hlw.out])) rfl ?_
          simp only [Act.put, List.setIfInBounds_toArray, List.set_cons_succ, List.set_cons_zero]
          refine wpS_this [3] rfl (by kernel_rfl) (by simp only [pickL, nthL, List.cons_append, List.nil_append]; rfl) ?_
          repeat (go_big_quiet_step (fail))
          refine wpQuiet_nil ?_
          refine wpS_addrArr (i := 4) (d := some 57) (b := lb) (j := jn) is8 rfl (by rfl) rfl rfl rfl (by omega) rfl ?_
          simp only [Act.put, List.setIfInBounds_toArray, List.set_cons_succ, List.set_cons_zero]
          refine wpS_setEl (i := 5) (z := (lw - 1)) (L2 := [_, _, _, _]) rfl (by rfl) rfl rfl rfl HM259.out 4 rfl rfl (by rw [tabN_len]; omega) covS_nil rfl ?_
          rintro W261 hm260 -
          have HM262 := Lib.hid hm260
          clear hm260
          refine wpS_nil ?_
          refine block_normal ?_
          refine then_normal ?_
          refine wp_region_N [(0, 1), (1, 1)] (by kernel_rfl) ?_
          refine wpS_this [0, 1] rfl (by kernel_rfl) (by simp only [pickL, nthL, List.cons_append, List.nil_append]; rfl) ?_
          repeat (go_big_quiet_step (fail))
          refine wpQuiet_nil ?_
          refine wpS_nil ?_
          refine then_normal ?_
          refine ⟨by kernel_rfl, ?_⟩
          have hgv := gB_given (now := now) (M := M) (k := k) (n := (jn : Int)) (by rw [hO2.out]; exact atL_of hx.out) (by rw [hO2.out, hL3.out, hj1.out, hj2.out, atL_of hav.out, atL_of hbv.out]; exact hpk.out)
          refine ⟨16 - (k + 1), by omega, k + 1, rfl, rfl, hk1, ?_⟩
          rw [hgv]
          dsimp only
          rw [hO2.out, hL3.out, ← off_upd _ hnM.out, ← tabN_set _ (by omega), hlw.out]
          exact (Mem.only (M := [_, _, _, _, _]) HM262.out [2, 2, 2, 1, 0] rfl)
      · have hx2 := hok.out.node x hx1
        have g1 : (x != -1) = true := bne_iff_ne.2 (by omega)
        have hx1 := Lib.hid hx1
        refine wp_region_N [(0, 1), (1, 1), (2, 1), (3, 1)] (by kernel_rfl) ?_
        refine wpS_this [0] rfl (by kernel_rfl) (by simp only [pickL, nthL, List.cons_append, List.nil_append]; rfl) ?_
        repeat (go_big_quiet_step (fail))
        refine wpQuiet_nil ?_
        refine wpS_addrArr (i := 1) (d := some 32) (b := kb) (j := k) is16 rfl (by rfl) rfl rfl rfl (by omega) rfl ?_
        simp only [Act.put, List.setIfInBounds_toArray, List.set_cons_succ, List.set_cons_zero]
        refine wpS_loadEl (i := 2) (d := some 33) (y := x) rfl (by rfl) rfl rfl (HM249.out.arr 3 rfl (hx.out)) rfl ?_
        simp only [Act.put, List.setIfInBounds_toArray, List.set_cons_succ, List.set_cons_zero]
        refine wpS_this [3] rfl (by kernel_rfl) (by simp only [pickL, nthL, List.cons_append, List.nil_append]; rfl) ?_
        repeat (go_big_quiet_step (fail))
        refine wpQuiet_nil ?_
        refine wpS_nil ?_
        refine then_normal ?_
        refine wp_cond_true rfl ?_
        refine wp_exit ?_
        refine then_exit (block_exit ?_)
        refine then_normal ?_
        refine wp_region_N [(0, 1), (1, 1)] (by kernel_rfl) ?_
        refine wpS_this [0, 1] rfl (by kernel_rfl) (by simp only [pickL, nthL, List.cons_append, List.nil_append]; rfl) ?_
        repeat (go_big_quiet_step (fail))
        refine wpQuiet_nil ?_
        refine wpS_nil ?_
        refine then_normal ?_
        refine ⟨by kernel_rfl, ?_⟩
        have hnn : atL (gB now M k).1 k ≠ -1 := by rw [hO2.out, atL_of hx.out]; omega
        refine ⟨16 - (k + 1), by omega, k + 1, rfl, rfl, hk1, ?_⟩
        rw [gB_kept hnn, hO2.out, hL3.out]
        exact (Mem.only (M := [_, _, _, _, _]) HM249.out [0, 0, 0, 0, 0] rfl)
    · have hkn : k = 16 := by have : ¬ (k : Int) < 16 := (by simpa using h250); omega
      clear h250
      subst hkn
      refine wp_exit ?_
      refine then_exit (then_exit (block_exit ?_))
      refine then_normal ?_
      refine wp_seq ?_
      refine wp_region_N [(0, 1), (1, 1)] (by kernel_rfl) ?_
      refine wpS_sliceArr (i := 0) (d := some 59) (b := kb) is16 rfl (by rfl) rfl rfl (by decide) rfl ?_
      simp only [Act.put, List.setIfInBounds_toArray, List.set_cons_succ, List.set_cons_zero]
      refine wpS_this [1] rfl (by kernel_rfl) (by simp only [pickL, nthL, List.cons_append, List.nil_append]; rfl) ?_
      repeat (go_big_quiet_step (fail))
      refine wpQuiet_nil ?_
      refine wpS_nil ?_
      refine then_normal ?_
      refine wp_ret ?_
      refine bodyPost_ret (results_tmp rfl _ _ _) rfl ?_
      have hfin := HM249.out
      rw [← hO2.out, gB_end hne.out] at hfin
      exact doesU_ret (post := fun u => [rdRow u (assignOf now (peersOf ms (-1))), R]) (by rw [hMe.out]; exact Mem.rdArr (assigned hok.out hne.out).len (Mem.only (M := [_, _]) hfin [3, 0] rfl)) rfl
end
end Go.Proofs.Ythibiejneggmoaa
