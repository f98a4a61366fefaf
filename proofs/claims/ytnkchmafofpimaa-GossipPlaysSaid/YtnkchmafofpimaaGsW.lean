/- The reference's first ring. -/
import Derived.Test.YtnkchmafofpimaaGsR
import Derived.Test.YtnkchmafofpimaaRgL
namespace Go.Proofs.Ytnkchmafofpimaa
open Go Go.RowKit Go.BigFrame

set_option maxHeartbeats 4000000 in
set_option maxRecDepth 100000 in
theorem rfirst_d (n : Int) (f : Rg) (e : Bool) (hf : firstR n = (f, e)) : DoesU Try.prog 23 #[.int .i64 n] [] (fun u => [ringTe u f (.bool e)]) := by
  intro w H hp
  have HM0 := Lib.hid (mem_refl hp)
  clear hp
  go_enter Try.func23, Try.ntmps23
  refine wp_seq ?_
  refine wp_region_N [(0, 3), (1, 1)] (by kernel_rfl) ?_
  refine wpS_alloc (i := 0) (dd := 2) (z := rgV noR (.slice none 0 0)) (cs := (rgC noR (.slice none 0 0)).toArray) rfl (by rfl) rfl (by kernel_rfl) rfl HM0.out covS_nil rfl ?_
  rintro b3 W2 hm1 -
  have HM4 := Lib.hid hm1
  clear hm1
  simp only [Act.put, List.setIfInBounds_toArray, List.set_cons_succ, List.set_cons_zero]
  refine wpS_this [1] rfl (by kernel_rfl) (by simp only [pickL, nthL, List.cons_append, List.nil_append]; rfl) ?_
  repeat (go_big_quiet_step (fail))
  refine wpQuiet_nil ?_
  refine wpS_nil ?_
  refine then_normal ?_
  refine wp_seq ?_
  refine wp_region_N [(0, 3)] (by kernel_rfl) ?_
  refine wpS_alloc (i := 0) (dd := 4) (z := rgV noR (.slice none 0 0)) (cs := (rgC noR (.slice none 0 0)).toArray) rfl (by rfl) rfl (by kernel_rfl) rfl HM4.out covS_nil rfl ?_
  rintro b7 W6 hm5 -
  have HM8 := Lib.hid hm5
  clear hm5
  simp only [Act.put, List.setIfInBounds_toArray, List.set_cons_succ, List.set_cons_zero]
  refine wpS_nil ?_
  refine then_normal ?_
  refine wp_seq ?_
  refine wp_seq ?_
  rcases Bool.eq_false_or_eq_true (nodeE n) with hn | hn
  · have hq : firstR n = (oneR n.toNat, true) := by unfold firstR; rw [if_pos hn]
    have hq := hf.symm.trans hq
    have q1 := (Prod.mk.inj hq).1
    have q2 := (Prod.mk.inj hq).2
    subst q1
    subst q2
    clear hq hf
    have hn8 := of_decide_eq_true hn
    obtain ⟨m, rfl⟩ := Int.eq_ofNat_of_zero_le hn8.1
    have hm8 : m < 8 := by omega
    clear hn8
    rw [Int.toNat_natCast]
    replace hn := Lib.hid hn
    refine wp_region_N [(0, 1), (1, 3), (2, 1)] (by kernel_rfl) ?_
    refine wpS_this [0] rfl (by kernel_rfl) (by simp only [pickL, nthL, List.cons_append, List.nil_append]; rfl) ?_
    repeat (go_big_quiet_step (fail))
    refine wpQuiet_nil ?_
    refine wpS_does1 (i := 1) (d := some 7) (rem := [_, _]) (out := [_, _]) rfl (by rfl) rfl Try.call17 (rnode_d _) rfl HM8.out [] rfl covS_nil rfl rfl ?_
    rintro W10 hm9 -
    rw [hn.out]
    have HM11 := Lib.hid hm9
    clear hm9
    simp only [Act.put, List.setIfInBounds_toArray, List.set_cons_succ, List.set_cons_zero]
    refine wpS_this [2] rfl (by kernel_rfl) (by simp only [pickL, nthL, List.cons_append, List.nil_append]; rfl) ?_
    repeat (go_big_quiet_step (fail))
    refine wpQuiet_nil ?_
    refine wpS_nil ?_
    refine then_normal ?_
    refine wp_cond_false rfl ?_
    refine wp_skip ?_
    refine then_normal ?_
    refine wp_seq ?_
    refine wp_region_N [(0, 1), (1, 1), (2, 1), (3, 3)] (by kernel_rfl) ?_
    refine wpS_this [0, 1] rfl (by kernel_rfl) (by simp only [pickL, nthL, List.cons_append, List.nil_append]; rfl) ?_
    repeat (go_big_quiet_step (fail))
    refine wpQuiet_nil ?_
    refine wpS_read (i := 2) (d := some 12) rfl (by rfl) (run_addrSt (hm8) rfl rfl rfl) rfl ?_
    simp only [Act.put, List.setIfInBounds_toArray, List.set_cons_succ, List.set_cons_zero]
    refine wpS_store1 (i := 3) (v := .int _ _) (L2 := [_]) (cs' := rgC (⟨upd (fun _ => 0) m 2, (0, 0, []), noR.e⟩) (.slice none 0 0)) rfl (by rfl) rfl rfl rfl rfl (by kernel_rfl) rfl HM11.out 0 rfl rfl (Nat.ble_eq_true_of_le (by rw [rgC_len]; have := hm8; omega)) (rgC_setS (hm8) _) covS_nil rfl ?_
    rintro W13 hm12 -
    have HM14 := Lib.hid hm12
    clear hm12
    refine wpS_nil ?_
    refine then_normal ?_
    refine wp_seq ?_
    refine wp_seq ?_
    refine wp_region_N [(0, 1)] (by kernel_rfl) ?_
    refine wpS_this [0] rfl (by kernel_rfl) (by simp only [pickL, nthL, List.cons_append, List.nil_append]; rfl) ?_
    repeat (go_big_quiet_step (fail))
    refine wpQuiet_nil ?_
    refine wpS_nil ?_
    refine then_normal ?_
    refine wp_block ?_
    refine wp_loop_F [5, 13, 14, 15, 16, 17, 18, 19, 20, 21] (fun n vs W' => ∃ k : Nat, n = 16 - k ∧ vs 13 = .int .i64 (k : Int) ∧ k ≤ 16 ∧ Mem [boxT b7 (.cells (rgC ⟨upd (fun _ => 0) m 2, (0, 0, []), fun i => if i < k then (1, (m : Int)) else noR.e i⟩ (.slice none 0 0)).toArray 37 (0, 0)), boxT b3 (.cells (rgC noR (.slice none 0 0)).toArray 37 (0, 0))] H w W') (n0 := 16) ?_ ?_
    · refine ⟨0, rfl, rfl, Nat.zero_le _, ?_⟩
      rw [upd_none (fun _ => ((1 : Int), (m : Int)))]
      exact (Mem.only (M := [_, _]) HM14.out [0, 0] rfl)
    rintro n vs W' ⟨k, rfl, e13, hk, hm⟩
    simp only [putAll, List.map_cons, List.map_nil, Act.put, List.setIfInBounds_toArray, List.set_cons_succ, List.set_cons_zero]
    rw [e13]
    clear e13
    have HM15 := Lib.hid hm
    clear hm
    refine wp_seq ?_
    refine wp_region_N [(0, 1)] (by kernel_rfl) ?_
    refine wpS_this [0] rfl (by kernel_rfl) (by simp only [pickL, nthL, List.cons_append, List.nil_append]; rfl) ?_
    repeat (go_big_quiet_step (fail))
    refine wpQuiet_nil ?_
    refine wpS_nil ?_
    refine then_normal ?_
    refine wp_seq ?_
    refine wp_cond_split rfl (fun h16 => ?_) (fun h16 => ?_)
    · have hk1 : k + 1 ≤ 16 := by have : (k : Int) < 16 := (by simpa using h16); omega
      clear h16
      refine wp_skip ?_
      refine then_normal ?_
      refine wp_seq ?_
      refine wp_block ?_
      refine wp_seq ?_
      refine wp_region_N [(0, 1), (1, 1)] (by kernel_rfl) ?_
      refine wpS_this [0, 1] rfl (by kernel_rfl) (by simp only [pickL, nthL, List.cons_append, List.nil_append]; rfl) ?_
      repeat (go_big_quiet_step (fail))
      refine wpQuiet_nil ?_
      refine wpS_nil ?_
      refine then_normal ?_
      refine wp_region_N [(0, 1), (1, 1), (2, 1), (3, 1), (4, 1), (5, 3)] (by kernel_rfl) ?_
      refine wpS_this [0, 1, 2, 3] rfl (by kernel_rfl) (by simp only [pickL, nthL, List.cons_append, List.nil_append]; rfl) ?_
      repeat (go_big_quiet_step (fail))
      refine wpQuiet_nil ?_
      refine wpS_read (i := 4) (d := some 20) rfl (by rfl) (run_addrEnt (show k < 16 by omega) rfl rfl rfl) rfl ?_
      simp only [Act.put, List.setIfInBounds_toArray, List.set_cons_succ, List.set_cons_zero]
      refine wpS_storeA (i := 5) (L2 := [_]) (cs' := rgC (⟨upd (fun _ => 0) m 2, (0, 0, []), upd (fun i => if i < k then (1, (m : Int)) else noR.e i) k (1, (m : Int))⟩) (.slice none 0 0)) rfl (by rfl) rfl rfl rfl (by kernel_rfl) (by rfl) HM15.out 0 rfl rfl (Nat.ble_eq_true_of_le (by rw [rgC_len]; show _ + 2 ≤ _; have := (show k < 16 by omega); omega)) (rgC_setE ((show k < 16 by omega)) ((1, (m : Int)))) covS_nil rfl ?_
      rintro W18 hm17 -
      have HM19 := Lib.hid hm17
      clear hm17
      refine wpS_nil ?_
      refine block_normal ?_
      refine then_normal ?_
      refine wp_region_N [(0, 1), (1, 1)] (by kernel_rfl) ?_
      refine wpS_this [0, 1] rfl (by kernel_rfl) (by simp only [pickL, nthL, List.cons_append, List.nil_append]; rfl) ?_
      repeat (go_big_quiet_step (fail))
      refine wpQuiet_nil ?_
      refine wpS_nil ?_
      refine then_normal ?_
      refine ⟨by kernel_rfl, ?_⟩
      refine ⟨16 - (k + 1), by omega, k + 1, rfl, rfl, hk1, ?_⟩
      rw [← upd_next (fun _ => ((1 : Int), (m : Int)))]
      exact (Mem.only (M := [_, _]) HM19.out [0, 0] rfl)
    · have hk16 : Hid (16 ≤ k) := Lib.hid (by have : ¬ (k : Int) < 16 := (by simpa using h16); omega)
      clear h16
      refine wp_exit ?_
      refine then_exit (then_exit (block_exit ?_))
      refine then_normal ?_
      refine wp_seq ?_
      rw [show k = 16 by have := hk16.out; omega, rgC_congr (r := ⟨upd (fun _ => 0) m 2, (0, 0, []), fun i => if i < 16 then (1, (m : Int)) else noR.e i⟩) (r' := oneR m) ⟨fun _ _ => rfl, rfl, fun i hi => if_pos hi⟩] at HM15
      refine wp_region_N [(0, 1), (1, 3), (2, 1)] (by kernel_rfl) ?_
      refine wpS_loadA (i := 0) (d := some 22) (cells := rgC ((oneR m)) (.slice none 0 0)) rfl (by rfl) rfl rfl (HM15.out.sub 0 rfl (fun k u h => by rw [Nat.zero_add]; exact h)) Try.underlying37 rfl (by kernel_rfl) rfl ?_
      simp only [Act.put, List.setIfInBounds_toArray, List.set_cons_succ, List.set_cons_zero]
      refine wpS_storeA (i := 1) (L2 := [_]) (cs' := rgC ((oneR m)) (.slice none 0 0)) rfl (by rfl) rfl rfl rfl (by kernel_rfl) (rgC_one _ _ _) HM15.out 1 rfl rfl (by kernel_rfl) (by kernel_rfl) covS_nil rfl ?_
      rintro W21 hm20 -
      have HM22 := Lib.hid hm20
      clear hm20
      refine wpS_this [2] rfl (by kernel_rfl) (by simp only [pickL, nthL, List.cons_append, List.nil_append]; rfl) ?_
      repeat (go_big_quiet_step (fail))
      refine wpQuiet_nil ?_
      refine wpS_nil ?_
      refine then_normal ?_
      refine wp_ret ?_
      refine ret_cell_tmp rfl HM22.out 0 rfl rfl Try.underlying37 rfl (by kernel_rfl) rfl rfl ?_
      exact doesU_ret (post := fun u => [ringTe u (oneR m) (.bool true)]) (Mem.toRingE (p := none) (c := 0) (x := oneR m) (Mem.nilRow elemI (Mem.only (M := []) HM22.out [] rfl))) rfl
  · have hq : firstR n = (noR, false) := by unfold firstR; rw [if_neg (by rw [hn]; simp)]
    have hq := hf.symm.trans hq
    have q1 := (Prod.mk.inj hq).1
    have q2 := (Prod.mk.inj hq).2
    subst q1
    subst q2
    clear hq hf
    replace hn := Lib.hid hn
    refine wp_region_N [(0, 1), (1, 3), (2, 1)] (by kernel_rfl) ?_
    refine wpS_this [0] rfl (by kernel_rfl) (by simp only [pickL, nthL, List.cons_append, List.nil_append]; rfl) ?_
    repeat (go_big_quiet_step (fail))
    refine wpQuiet_nil ?_
    refine wpS_does1 (i := 1) (d := some 7) (rem := [_, _]) (out := [_, _]) rfl (by rfl) rfl Try.call17 (rnode_d _) rfl HM8.out [] rfl covS_nil rfl rfl ?_
    rintro W24 hm23 -
    rw [hn.out]
    have HM25 := Lib.hid hm23
    clear hm23
    simp only [Act.put, List.setIfInBounds_toArray, List.set_cons_succ, List.set_cons_zero]
    refine wpS_this [2] rfl (by kernel_rfl) (by simp only [pickL, nthL, List.cons_append, List.nil_append]; rfl) ?_
    repeat (go_big_quiet_step (fail))
    refine wpQuiet_nil ?_
    refine wpS_nil ?_
    refine then_normal ?_
    refine wp_cond_true rfl ?_
    refine wp_seq ?_
    refine wp_region_N [(0, 1), (1, 3), (2, 1)] (by kernel_rfl) ?_
    refine wpS_loadA (i := 0) (d := some 9) (cells := rgC (noR) (.slice none 0 0)) rfl (by rfl) rfl rfl (HM25.out.sub 0 rfl (fun k u h => by rw [Nat.zero_add]; exact h)) Try.underlying37 rfl (by kernel_rfl) rfl ?_
    simp only [Act.put, List.setIfInBounds_toArray, List.set_cons_succ, List.set_cons_zero]
    refine wpS_storeA (i := 1) (L2 := [_]) (cs' := rgC (noR) (.slice none 0 0)) rfl (by rfl) rfl rfl rfl (by kernel_rfl) (rgC_one _ _ _) HM25.out 1 rfl rfl (by kernel_rfl) (by kernel_rfl) covS_nil rfl ?_
    rintro W27 hm26 -
    have HM28 := Lib.hid hm26
    clear hm26
    refine wpS_this [2] rfl (by kernel_rfl) (by simp only [pickL, nthL, List.cons_append, List.nil_append]; rfl) ?_
    repeat (go_big_quiet_step (fail))
    refine wpQuiet_nil ?_
    refine wpS_nil ?_
    refine then_normal ?_
    refine wp_ret ?_
    refine then_ret ?_
    refine ret_cell_tmp rfl HM28.out 0 rfl rfl Try.underlying37 rfl (by kernel_rfl) rfl rfl ?_
    exact doesU_ret (post := fun u => [ringTe u noR (.bool false)]) (Mem.toRingE (p := none) (c := 0) (x := noR) (Mem.nilRow elemI (Mem.only (M := []) HM28.out [] rfl))) rfl

end Go.Proofs.Ytnkchmafofpimaa
