/- ClmG: ClmG. -/
import Derived.Test.YthibiejneggmoaaClmD
namespace Go.Proofs.Ythibiejneggmoaa
section
open Go Go.RowKit Go.BigFrame
set_option maxHeartbeats 4000000 in
set_option maxRecDepth 100000 in
theorem quotaOf_d (R : At) (vm : Value) (now M : List Int) (hM : ∀ W H, R.p W H → RowAt elemI W vm M) (hok' : MemOk M) (hM8 : M.length ≤ 8) : Does Try.prog 23 #[aV (ownL now), vm] [R] (aV (tabN (offM M (quotaOf now M)))) [R] := by
  intro w H hp
  have HM0 := Lib.hid (mem_refl hp)
  clear hp
  obtain ⟨p, cap, rfl, -⟩ := (HM0.out.row 0 rfl hM).form
  have hok := Lib.hid hok'
  have hnd : Hid M.Nodup := Lib.hid hok'.nodup
  clear hok'
  go_enter Try.func23, Try.ntmps23
  refine wp_seq ?_
  refine wp_region_N [(0, 3), (1, 3)] (by kernel_rfl) ?_
  refine wpS_boxA (i := 0) (dd := 2) rfl (by rfl) rfl rfl HM0.out covS_nil rfl ?_
  rintro ib W2 hm1 -
  have HM3 := Lib.hid hm1
  clear hm1
  simp only [Act.put, List.setIfInBounds_toArray, List.set_cons_succ, List.set_cons_zero]
  refine wpS_alloc (i := 1) (dd := 4) (z := aV (List.replicate 8 0)) (cs := (((List.replicate 8 0) : List Int).map iV).toArray) rfl (by rfl) rfl (by kernel_rfl) rfl HM3.out covS_nil rfl ?_
  rintro rb W5 hm4 -
  have HM6 := Lib.hid hm4
  clear hm4
  simp only [Act.put, List.setIfInBounds_toArray, List.set_cons_succ, List.set_cons_zero]
  refine wpS_nil ?_
  refine then_normal ?_
  refine wp_seq ?_
  refine wp_region_N [(0, 3)] (by kernel_rfl) ?_
  refine wpS_alloc (i := 0) (dd := 5) (z := aV (List.replicate 8 0)) (cs := (((List.replicate 8 0) : List Int).map iV).toArray) rfl (by rfl) rfl (by kernel_rfl) rfl HM6.out covS_nil rfl ?_
  rintro qb W8 hm7 -
  have HM9 := Lib.hid hm7
  clear hm7
  simp only [Act.put, List.setIfInBounds_toArray, List.set_cons_succ, List.set_cons_zero]
  refine wpS_nil ?_
  refine then_normal ?_
  refine wp_seq ?_
  refine wp_seq ?_
  by_cases h0 : M.length = 0
  · have g1 : ((M.length : Int) == 0) = true := beq_iff_eq.2 (by omega)
    have h0e : M = [] := List.eq_nil_of_length_eq_zero h0
    refine wp_region_N [(0, 1), (1, 1), (2, 1)] (by kernel_rfl) ?_
    refine wpS_this [0, 1, 2] rfl (by kernel_rfl) (by simp only [pickL, nthL, List.cons_append, List.nil_append]; rfl) ?_
    repeat (go_big_quiet_step (fail))
    refine wpQuiet_nil ?_
    refine wpS_nil ?_
    refine then_normal ?_
    refine wp_cond_true rfl ?_
    refine wp_seq ?_
    refine wp_region_N [(0, 1), (1, 3)] (by kernel_rfl) ?_
    refine wpS_loadArr (i := 0) (d := some 18) is8 rfl (by rfl) rfl rfl HM9.out 0 rfl (List.length_replicate) rfl ?_
    simp only [Act.put, List.setIfInBounds_toArray, List.set_cons_succ, List.set_cons_zero]
    refine wpS_storeArr (i := 1) (L2 := [_, _, _]) is8 rfl (by rfl) rfl rfl rfl HM9.out 1 rfl rfl (List.length_replicate) (List.length_replicate) covS_nil rfl ?_
    rintro W11 hm10 -
    have HM12 := Lib.hid hm10
    clear hm10
    refine wpS_nil ?_
    refine then_normal ?_
    refine wp_ret ?_
    refine then_ret ?_
    refine ret_arr rfl is8 HM12.out 0 rfl rfl (List.length_replicate) rfl ?_
    exact does_ret (Mem.only (M := [_]) HM12.out [3] rfl) (by rw [h0e]; rfl) rfl
  · have g1 : ((M.length : Int) == 0) = false := beq_eq_false_iff_ne.2 (by omega)
    refine wp_region_N [(0, 1), (1, 1), (2, 1)] (by kernel_rfl) ?_
    refine wpS_this [0, 1, 2] rfl (by kernel_rfl) (by simp only [pickL, nthL, List.cons_append, List.nil_append]; rfl) ?_
    repeat (go_big_quiet_step (fail))
    refine wpQuiet_nil ?_
    refine wpS_nil ?_
    refine then_normal ?_
    refine wp_cond_false rfl ?_
    refine wp_skip ?_
    refine then_normal ?_
    refine wp_seq ?_
    refine wp_region_M (fun k => k ∈ ([] : List Nat)) [(0, 1), (1, 1), (2, 1), (3, 1), (4, 1), (5, 1), (6, 1), (7, 1)] (by kernel_rfl) (by kernel_rfl) HM9.out ?_
    intro W13 hm14
    have HM15 := Lib.hid hm14
    clear hm14
    refine wpS_this [0, 1, 2, 3, 4, 5, 6, 7] rfl (by kernel_rfl) (by simp only [pickL, nthL, List.cons_append, List.nil_append]; rfl) ?_
    repeat (go_big_quiet_step (fail))
    refine wpQuiet_nil ?_
    refine wpS_nil ?_
    refine then_normal ?_
    refine wp_seq ?_
    refine wp_seq ?_
    obtain ⟨bN, hbN'⟩ : ∃ b, 16 / M.length = b := ⟨_, rfl⟩
    obtain ⟨eN, heN'⟩ : ∃ e, 16 % M.length = e := ⟨_, rfl⟩
    have hbI : (16 : Int) / (M.length : Int) = (bN : Int) := by rw [← hbN']; simp
    have heI : (16 : Int) % (M.length : Int) = (eN : Int) := by rw [← heN']; simp
    rw [hbI, heI]
    obtain ⟨bI, hbi'⟩ : ∃ z : Int, (bN : Int) = z := ⟨_, rfl⟩
    rw [hbi']
    have hbi0 : 0 ≤ bI ∧ bI ≤ 16 := by rw [← hbi', ← hbN']; exact ⟨Int.natCast_nonneg _, by exact_mod_cast Nat.div_le_self 16 _⟩
    obtain ⟨hbi1, hbi2⟩ := hbi0
    have hbi := Lib.hid hbi'
    clear hbi'
    have hbN := Lib.hid hbN'
    have heN := Lib.hid heN'
    have hb16 : bN ≤ 16 := by rw [← hbN']; exact Nat.div_le_self _ _
    have he16 : eN ≤ 16 := by rw [← heN']; exact Nat.mod_le _ _
    clear hbI heI hbN' heN'
    refine wp_region_N [(0, 1), (1, 1), (2, 1)] (by kernel_rfl) ?_
    refine wpS_this [0, 1, 2] rfl (by kernel_rfl) (by simp only [pickL, nthL, List.cons_append, List.nil_append]; rfl) ?_
    repeat (go_big_quiet_step (fail))
    refine wpQuiet_nil ?_
    refine wpS_nil ?_
    refine then_normal ?_
    refine wp_block ?_
    refine wp_loop_F [9, 27, 28, 29, 30, 31, 32, 33, 34] (fun n vs W' => ∃ k : Nat, n = M.length - k ∧ vs 27 = .int .i64 (k : Int) ∧ k ≤ M.length ∧ Mem [R, arrT ib 34 (ownL now), arrT rb 37 (List.replicate 8 0), arrT qb 37 (tabN (fE M k))] H w W') (n0 := M.length) ?_ ?_
    · refine ⟨0, rfl, rfl, Nat.zero_le _, ?_⟩
      rw [fE_zero]
      exact (Mem.only (M := [_, _, _, _]) HM15.out [3, 2, 1, 0] rfl)
    rintro n vs W' ⟨k, rfl, e27, hk, hmm⟩
    simp only [putAll, List.map_cons, List.map_nil, Act.put, List.setIfInBounds_toArray, List.set_cons_succ, List.set_cons_zero]
    rw [e27]
    clear e27
    have HM16 := Lib.hid hmm
    clear hmm
    refine wp_seq ?_
    refine wp_region_N [(0, 1)] (by kernel_rfl) ?_
    refine wpS_this [0] rfl (by kernel_rfl) (by simp only [pickL, nthL, List.cons_append, List.nil_append]; rfl) ?_
    repeat (go_big_quiet_step (fail))
    refine wpQuiet_nil ?_
    refine wpS_nil ?_
    refine then_normal ?_
    refine wp_seq ?_
    refine wp_cond_split rfl (fun h17 => ?_) (fun h17 => ?_)
    · have hk1 : k + 1 ≤ M.length := by have : (k : Int) < ((M.length : Nat) : Int) := (by simpa using h17); omega
      clear h17
      obtain ⟨m, hm'⟩ : ∃ y, M[k]? = some y := ⟨_, List.getElem?_eq_getElem hk1⟩
      have hmr := hok.out.node m (List.mem_of_getElem? hm')
      obtain ⟨j, rfl⟩ : ∃ j : Nat, m = (j : Int) := ⟨m.toNat, by omega⟩
      have hm := Lib.hid hm'
      clear hm'
      refine wp_skip ?_
      refine then_normal ?_
      refine wp_seq ?_
      refine wp_block ?_
      refine wp_seq ?_
      refine wp_region_N [(0, 1), (1, 1), (2, 1)] (by kernel_rfl) ?_
      refine wpS_index (E := elemI) (i := 0) (d := some 29) rfl (by rfl) rfl rfl rfl (HM16.out.row 0 rfl hM) (hm.out) rfl ?_
      intro eb18 eo19 hc20
      simp only [Act.put, List.setIfInBounds_toArray, List.set_cons_succ, List.set_cons_zero]
      refine wpS_load1 (i := 1) (d := some 30) (u := .int .i64 (j : Int)) rfl (by rfl) rfl rfl (hc20 0 _ rfl) Try.underlying3 rfl rfl ?_
      simp only [Act.put, List.setIfInBounds_toArray, List.set_cons_succ, List.set_cons_zero]
      refine wpS_this [2] rfl (by kernel_rfl) (by simp only [pickL, nthL, List.cons_append, List.nil_append]; rfl) ?_
      repeat (go_big_quiet_step (fail))
      refine wpQuiet_nil ?_
      refine wpS_nil ?_
      refine then_normal ?_
      refine wp_region_N [(0, 1), (1, 1), (2, 1), (3, 3)] (by kernel_rfl) ?_
      refine wpS_this [0, 1] rfl (by kernel_rfl) (by simp only [pickL, nthL, List.cons_append, List.nil_append]; rfl) ?_
      repeat (go_big_quiet_step (fail))
      refine wpQuiet_nil ?_
      refine wpS_addrArr (i := 2) (d := some 33) (b := qb) (j := j) is8 rfl (by rfl) rfl rfl rfl (by omega) rfl ?_
      simp only [Act.put, List.setIfInBounds_toArray, List.set_cons_succ, List.set_cons_zero]
      refine wpS_setEl (i := 3) (z := bI) (L2 := [_, _, _]) rfl (by rfl) rfl rfl rfl HM16.out 3 rfl rfl (by rw [tabN_len]; omega) covS_nil rfl ?_
      rintro W22 hm21 -
      have HM23 := Lib.hid hm21
      clear hm21
      refine wpS_nil ?_
      refine block_normal ?_
      refine then_normal ?_
      refine wp_region_N [(0, 1), (1, 1)] (by kernel_rfl) ?_
      refine wpS_this [0, 1] rfl (by kernel_rfl) (by simp only [pickL, nthL, List.cons_append, List.nil_append]; rfl) ?_
      repeat (go_big_quiet_step (fail))
      refine wpQuiet_nil ?_
      refine wpS_nil ?_
      refine then_normal ?_
      refine ⟨by kernel_rfl, ?_⟩
      refine ⟨M.length - (k + 1), by omega, k + 1, rfl, rfl, hk1, ?_⟩
      rw [fE_step hm.out (by omega), hbN.out, hbi.out]
      exact (Mem.only (M := [_, _, _, _]) HM23.out [1, 1, 1, 0] rfl)
    · have hgeE : Hid (M.length ≤ k) := Lib.hid (by have : ¬ (k : Int) < (M.length : Int) := (by simpa using h17); omega)
      clear h17
      refine wp_exit ?_
      refine then_exit (then_exit (block_exit ?_))
      refine then_normal ?_
      refine wp_seq ?_
      refine wp_region_N [(0, 1), (1, 3), (2, 3), (3, 3)] (by kernel_rfl) ?_
      refine wpS_loadArr (i := 0) (d := some 35) is16 rfl (by rfl) rfl rfl HM16.out 1 rfl (ownL_len now) rfl ?_
      simp only [Act.put, List.setIfInBounds_toArray, List.set_cons_succ, List.set_cons_zero]
      refine wpS_does1 (i := 1) (d := some 36) (rem := [_, _, _, _]) (out := [_, _, _, _]) rfl (by rfl) rfl Try.call27 (counts_d (ownL now) (ownL_len now) (own_el now)) rfl HM16.out [] rfl covS_nil rfl rfl ?_
      rintro W25 hm24 -
      have HM26 := Lib.hid hm24
      clear hm24
      simp only [Act.put, List.setIfInBounds_toArray, List.set_cons_succ, List.set_cons_zero]
      refine wpS_alloc (i := 2) (dd := 10) (z := aV (List.replicate 8 0)) (cs := (((List.replicate 8 0) : List Int).map iV).toArray) rfl (by rfl) rfl (by kernel_rfl) rfl HM26.out covS_nil rfl ?_
      rintro cb W28 hm27 -
      have HM29 := Lib.hid hm27
      clear hm27
      simp only [Act.put, List.setIfInBounds_toArray, List.set_cons_succ, List.set_cons_zero]
      refine wpS_storeArr (i := 3) (L2 := [_, _, _, _]) is8 rfl (by rfl) rfl rfl rfl HM29.out 0 rfl rfl (List.length_replicate) (tabN_len _) covS_nil rfl ?_
      rintro W31 hm30 -
      have HM32 := Lib.hid hm30
      clear hm30
      refine wpS_nil ?_
      refine then_normal ?_
      refine wp_seq ?_
      refine wp_seq ?_
      refine wp_region_N [(0, 1), (1, 1)] (by kernel_rfl) ?_
      refine wpS_this [0, 1] rfl (by kernel_rfl) (by simp only [pickL, nthL, List.cons_append, List.nil_append]; rfl) ?_
      repeat (go_big_quiet_step (fail))
      refine wpQuiet_nil ?_
      refine wpS_nil ?_
      refine then_normal ?_
      refine wp_block ?_
      refine wp_loop_rounds 3 ?_
      refine rounds_step ?_
      refine wp_seq ?_
      refine wp_region_N [(0, 1)] (by kernel_rfl) ?_
      refine wpS_this [0] rfl (by kernel_rfl) (by simp only [pickL, nthL, List.cons_append, List.nil_append]; rfl) ?_
      repeat (go_big_quiet_step (fail))
      refine wpQuiet_nil ?_
      refine wpS_nil ?_
      refine then_normal ?_
      refine wp_seq ?_
      refine wp_cond_true rfl ?_
      refine wp_skip ?_
      refine then_normal ?_
      refine wp_seq ?_
      refine wp_block ?_
      refine wp_seq ?_
      refine wp_region_N [(0, 1), (1, 1)] (by kernel_rfl) ?_
      refine wpS_indexArrB (i := 0) (d := some 40) (j := 0) (l := [true, false]) is2b rfl (by rfl) rfl rfl rfl rfl rfl rfl ?_
      simp only [Act.put, List.setIfInBounds_toArray, List.set_cons_succ, List.set_cons_zero]
      refine wpS_this [1] rfl (by kernel_rfl) (by simp only [pickL, nthL, List.cons_append, List.nil_append]; rfl) ?_
      repeat (go_big_quiet_step (fail))
      refine wpQuiet_nil ?_
      refine wpS_nil ?_
      refine then_normal ?_
      refine wp_seq ?_
      refine wp_region_N [(0, 1), (1, 1), (2, 1)] (by kernel_rfl) ?_
      refine wpS_this [0, 1, 2] rfl (by kernel_rfl) (by simp only [pickL, nthL, List.cons_append, List.nil_append]; rfl) ?_
      repeat (go_big_quiet_step (fail))
      refine wpQuiet_nil ?_
      refine wpS_nil ?_
      refine then_normal ?_
      refine wp_block ?_
      refine wp_loop_F [7, 14, 43, 44, 45, 46, 47, 48, 49, 50, 51, 52, 53, 54, 55, 56, 57, 58, 59, 60, 61, 62, 63, 64, 65] (fun n vs W' => ∃ k : Nat, n = M.length - k ∧ vs 43 = .int .i64 (k : Int) ∧ vs 7 = .int .i64 ((eN - bigsK now M k : Nat) : Int) ∧ k ≤ M.length ∧ Mem [R, arrT ib 34 (ownL now), arrT rb 37 (List.replicate 8 0), arrT qb 37 (tabN (f0 now M k)), arrT cb 37 (tabN (cntK (ownL now) 16))] H w W') (n0 := M.length) ?_ ?_
      · have hkm : k = M.length := by have := hgeE.out; omega
        subst hkm
        refine ⟨0, rfl, rfl, ?_, Nat.zero_le _, ?_⟩
        · simp [bigsK]
        · rw [← fE_end now M]
          exact (Mem.only (M := [_, _, _, _, _]) HM32.out [1, 1, 1, 1, 0] rfl)
      rintro n vs W' ⟨k, rfl, e43, e7, hk, hmm⟩
      simp only [putAll, List.map_cons, List.map_nil, Act.put, List.setIfInBounds_toArray, List.set_cons_succ, List.set_cons_zero]
      rw [e43, e7]
      clear e43 e7
      obtain ⟨z, hz'⟩ : ∃ z : Int, ((eN - bigsK now M k : Nat) : Int) = z := ⟨_, rfl⟩
      rw [hz']
      have hz0 : 0 ≤ z ∧ z ≤ 16 := by rw [← hz']; omega
      obtain ⟨hz1, hz2⟩ := hz0
      have hz := Lib.hid hz'
      clear hz'
      have HM33 := Lib.hid hmm
      clear hmm
      refine wp_seq ?_
      refine wp_region_N [(0, 1)] (by kernel_rfl) ?_
      refine wpS_this [0] rfl (by kernel_rfl) (by simp only [pickL, nthL, List.cons_append, List.nil_append]; rfl) ?_
      repeat (go_big_quiet_step (fail))
      refine wpQuiet_nil ?_
      refine wpS_nil ?_
      refine then_normal ?_
      refine wp_seq ?_
      refine wp_cond_split rfl (fun h34 => ?_) (fun h34 => ?_)
      · have hk1 : k + 1 ≤ M.length := by have : (k : Int) < ((M.length : Nat) : Int) := (by simpa using h34); omega
        clear h34
        obtain ⟨m, hm'⟩ : ∃ y, M[k]? = some y := ⟨_, List.getElem?_eq_getElem hk1⟩
        have hmr := hok.out.node m (List.mem_of_getElem? hm')
        obtain ⟨j, rfl⟩ : ∃ j : Nat, m = (j : Int) := ⟨m.toNat, by omega⟩
        have hm := Lib.hid hm'
        clear hm'
        obtain ⟨hv, hhv'⟩ : ∃ z : Int, (hasK now (j : Int) 16 : Int) = z := ⟨_, rfl⟩
        have hcv : Hid (cntK (ownL now) 16 (j : Int) = hv) := Lib.hid ((own_count now (by omega)).trans hhv')
        have hhv := Lib.hid hhv'
        clear hhv'
        refine wp_skip ?_
        refine then_normal ?_
        refine wp_seq ?_
        refine wp_block ?_
        refine wp_seq ?_
        refine wp_region_N [(0, 1), (1, 1), (2, 1)] (by kernel_rfl) ?_
        refine wpS_index (E := elemI) (i := 0) (d := some 45) rfl (by rfl) rfl rfl rfl (HM33.out.row 0 rfl hM) (hm.out) rfl ?_
        intro eb35 eo36 hc37
        simp only [Act.put, List.setIfInBounds_toArray, List.set_cons_succ, List.set_cons_zero]
        refine wpS_load1 (i := 1) (d := some 46) (u := .int .i64 (j : Int)) rfl (by rfl) rfl rfl (hc37 0 _ rfl) Try.underlying3 rfl rfl ?_
        simp only [Act.put, List.setIfInBounds_toArray, List.set_cons_succ, List.set_cons_zero]
        refine wpS_this [2] rfl (by kernel_rfl) (by simp only [pickL, nthL, List.cons_append, List.nil_append]; rfl) ?_
        repeat (go_big_quiet_step (fail))
        refine wpQuiet_nil ?_
        refine wpS_nil ?_
        refine then_normal ?_
        refine wp_seq ?_
        by_cases he : bigsK now M k < eN <;> by_cases hb' : bN < hasK now (j : Int) 16
        · have g1 : decide ((0 : Int) < z) = true := decide_eq_true (by have := hz.out; omega)
          have g2 : decide (bI < hv) = true := decide_eq_true (by have := hhv.out; have := hbi.out; omega)
          have hbig : Hid (bigB now bN (j : Int) = true) := Lib.hid (decide_eq_true hb')
          have hat : Hid (f0 now M k (j : Int) = bI) := Lib.hid (by rw [f0_at hnd.out hm.out, hbN.out, hbi.out])
          have hzp : 0 < z := by have := hz.out; omega
          have he := Lib.hid he
          have hb' := Lib.hid hb'
          refine wp_region_N [(0, 1), (1, 1), (2, 1), (3, 1), (4, 1), (5, 1), (6, 1), (7, 1), (8, 1), (9, 1), (10, 1)] (by kernel_rfl) ?_
          refine wpS_this [0, 1, 2, 3] rfl (by kernel_rfl) (by simp only [pickL, nthL, List.cons_append, List.nil_append]; rfl) ?_
          repeat (go_big_quiet_step (fail))
          refine wpQuiet_nil ?_
          refine wpS_addrArr (i := 4) (d := some 51) (b := cb) (j := j) is8 rfl (by rfl) rfl rfl rfl (by omega) rfl ?_
          simp only [Act.put, List.setIfInBounds_toArray, List.set_cons_succ, List.set_cons_zero]
          refine wpS_loadEl (i := 5) (d := some 52) (y := hv) rfl (by rfl) rfl rfl (HM33.out.arr 4 rfl (by rw [tabN_at _ (by omega), hcv.out])) rfl ?_
          simp only [Act.put, List.setIfInBounds_toArray, List.set_cons_succ, List.set_cons_zero]
          refine wpS_this [6, 7, 8, 9, 10] rfl (by kernel_rfl) (by simp only [pickL, nthL, List.cons_append, List.nil_append]; rfl) ?_
          repeat (go_big_quiet_step (fail))
          refine wpQuiet_nil ?_
          refine wpS_nil ?_
          refine then_normal ?_
          refine wp_cond_true rfl ?_
          refine wp_seq ?_
          refine wp_region_N [(0, 1), (1, 1), (2, 1), (3, 1), (4, 1), (5, 3)] (by kernel_rfl) ?_
          refine wpS_this [0] rfl (by kernel_rfl) (by simp only [pickL, nthL, List.cons_append, List.nil_append]; rfl) ?_
          repeat (go_big_quiet_step (fail))
          refine wpQuiet_nil ?_
          refine wpS_addrArr (i := 1) (d := some 59) (b := qb) (j := j) is8 rfl (by rfl) rfl rfl rfl (by omega) rfl ?_
          simp only [Act.put, List.setIfInBounds_toArray, List.set_cons_succ, List.set_cons_zero]
          refine wpS_loadEl (i := 2) (d := some 60) (y := bI) rfl (by rfl) rfl rfl (HM33.out.arr 3 rfl (by rw [tabN_at _ (by omega), hat.out])) rfl ?_
          simp only [Act.put, List.setIfInBounds_toArray, List.set_cons_succ, List.set_cons_zero]
          refine wpS_this [3] rfl (by kernel_rfl) (by simp only [pickL, nthL, List.cons_append, List.nil_append]; rfl) ?_
          repeat (go_big_quiet_step (fail))
          refine wpQuiet_nil ?_
          refine wpS_addrArr (i := 4) (d := some 62) (b := qb) (j := j) is8 rfl (by rfl) rfl rfl rfl (by omega) rfl ?_
          simp only [Act.put, List.setIfInBounds_toArray, List.set_cons_succ, List.set_cons_zero]
          refine wpS_setEl (i := 5) (z := (bI + 1)) (L2 := [_, _, _, _]) rfl (by rfl) rfl rfl rfl HM33.out 3 rfl rfl (by rw [tabN_len]; omega) covS_nil rfl ?_
          rintro W39 hm38 -
          have HM40 := Lib.hid hm38
          clear hm38
          refine wpS_nil ?_
          refine then_normal ?_
          refine wp_region_N [(0, 1), (1, 1), (2, 1)] (by kernel_rfl) ?_
          refine wpS_this [0, 1, 2] rfl (by kernel_rfl) (by simp only [pickL, nthL, List.cons_append, List.nil_append]; rfl) ?_
          repeat (go_big_quiet_step (fail))
          refine wpQuiet_nil ?_
          refine wpS_nil ?_
          refine block_normal ?_
          refine then_normal ?_
          refine wp_region_N [(0, 1), (1, 1)] (by kernel_rfl) ?_
          refine wpS_this [0, 1] rfl (by kernel_rfl) (by simp only [pickL, nthL, List.cons_append, List.nil_append]; rfl) ?_
          repeat (go_big_quiet_step (fail))
          refine wpQuiet_nil ?_
          refine wpS_nil ?_
          refine then_normal ?_
          refine ⟨by kernel_rfl, ?_⟩
          have hE := bigsK_succ (now := now) hm.out
          rw [hbN.out, hbig.out] at hE
          refine ⟨M.length - (k + 1), by omega, k + 1, rfl, rfl, ?_, hk1, ?_⟩
          · have hz3 := hz.out
            have he3 := he.out
            rw [hE]
            simp only [if_true]
            exact congrArg (Value.int .i64) (by omega)
          · rw [f0_give hok.out hm.out (by rw [hbN.out]; exact hbig.out) (by rw [heN.out]; exact he.out), hbN.out, hbi.out]
            exact (Mem.only (M := [_, _, _, _, _]) HM40.out [1, 1, 1, 0, 0] rfl)
        · have g1 : decide ((0 : Int) < z) = true := decide_eq_true (by have := hz.out; omega)
          have g2 : decide (bI < hv) = false := decide_eq_false (by have := hhv.out; have := hbi.out; omega)
          have hbig : Hid (bigB now bN (j : Int) = false) := Lib.hid (decide_eq_false hb')
          have hzp : 0 < z := by have := hz.out; omega
          have he := Lib.hid he
          have hb' := Lib.hid hb'
          refine wp_region_N [(0, 1), (1, 1), (2, 1), (3, 1), (4, 1), (5, 1), (6, 1), (7, 1), (8, 1), (9, 1), (10, 1)] (by kernel_rfl) ?_
          refine wpS_this [0, 1, 2, 3] rfl (by kernel_rfl) (by simp only [pickL, nthL, List.cons_append, List.nil_append]; rfl) ?_
          repeat (go_big_quiet_step (fail))
          refine wpQuiet_nil ?_
          refine wpS_addrArr (i := 4) (d := some 51) (b := cb) (j := j) is8 rfl (by rfl) rfl rfl rfl (by omega) rfl ?_
          simp only [Act.put, List.setIfInBounds_toArray, List.set_cons_succ, List.set_cons_zero]
          refine wpS_loadEl (i := 5) (d := some 52) (y := hv) rfl (by rfl) rfl rfl (HM33.out.arr 4 rfl (by rw [tabN_at _ (by omega), hcv.out])) rfl ?_
          simp only [Act.put, List.setIfInBounds_toArray, List.set_cons_succ, List.set_cons_zero]
          refine wpS_this [6, 7, 8, 9, 10] rfl (by kernel_rfl) (by simp only [pickL, nthL, List.cons_append, List.nil_append]; rfl) ?_
          repeat (go_big_quiet_step (fail))
          refine wpQuiet_nil ?_
          refine wpS_nil ?_
          refine then_normal ?_
          refine wp_cond_false rfl ?_
          refine wp_skip ?_
          refine block_normal ?_
          refine then_normal ?_
          refine wp_region_N [(0, 1), (1, 1)] (by kernel_rfl) ?_
          refine wpS_this [0, 1] rfl (by kernel_rfl) (by simp only [pickL, nthL, List.cons_append, List.nil_append]; rfl) ?_
          repeat (go_big_quiet_step (fail))
          refine wpQuiet_nil ?_
          refine wpS_nil ?_
          refine then_normal ?_
          refine ⟨by kernel_rfl, ?_⟩
          have hE := bigsK_succ (now := now) hm.out
          rw [hbN.out, hbig.out] at hE
          refine ⟨M.length - (k + 1), by omega, k + 1, rfl, rfl, ?_, hk1, ?_⟩
          · have hz3 := hz.out
            have he3 := he.out
            rw [hE]
            simp only [if_false, Bool.false_eq_true]
            exact congrArg (Value.int .i64) (by omega)
          · rw [f0_not hok.out hm.out (by rw [hbN.out, heN.out]; rintro ⟨h1, h2⟩; first | exact he.out h2 | (rw [hbig.out] at h1; simp at h1))]
            exact (Mem.only (M := [_, _, _, _, _]) HM33.out [0, 0, 0, 0, 0] rfl)
        · have g1 : decide ((0 : Int) < z) = false := decide_eq_false (by have := hz.out; omega)
          have g2 : decide (bI < hv) = true := decide_eq_true (by have := hhv.out; have := hbi.out; omega)
          have hbig : Hid (bigB now bN (j : Int) = true) := Lib.hid (decide_eq_true hb')
          have he := Lib.hid he
          have hb' := Lib.hid hb'
          refine wp_region_N [(0, 1), (1, 1), (2, 1), (3, 1), (4, 1), (5, 1), (6, 1), (7, 1), (8, 1), (9, 1), (10, 1)] (by kernel_rfl) ?_
          refine wpS_this [0, 1, 2, 3] rfl (by kernel_rfl) (by simp only [pickL, nthL, List.cons_append, List.nil_append]; rfl) ?_
          repeat (go_big_quiet_step (fail))
          refine wpQuiet_nil ?_
          refine wpS_skip (i := 4) (d := some 51) rfl (by rfl) rfl ?_
          simp only [Act.put, List.setIfInBounds_toArray, List.set_cons_succ, List.set_cons_zero]
          refine wpS_skip (i := 5) (d := some 52) rfl (by rfl) rfl ?_
          simp only [Act.put, List.setIfInBounds_toArray, List.set_cons_succ, List.set_cons_zero]
          refine wpS_this [6, 7, 8, 9, 10] rfl (by kernel_rfl) (by simp only [pickL, nthL, List.cons_append, List.nil_append]; rfl) ?_
          repeat (go_big_quiet_step (fail))
          refine wpQuiet_nil ?_
          refine wpS_nil ?_
          refine then_normal ?_
          refine wp_cond_false rfl ?_
          refine wp_skip ?_
          refine block_normal ?_
          refine then_normal ?_
          refine wp_region_N [(0, 1), (1, 1)] (by kernel_rfl) ?_
          refine wpS_this [0, 1] rfl (by kernel_rfl) (by simp only [pickL, nthL, List.cons_append, List.nil_append]; rfl) ?_
          repeat (go_big_quiet_step (fail))
          refine wpQuiet_nil ?_
          refine wpS_nil ?_
          refine then_normal ?_
          refine ⟨by kernel_rfl, ?_⟩
          have hE := bigsK_succ (now := now) hm.out
          rw [hbN.out, hbig.out] at hE
          refine ⟨M.length - (k + 1), by omega, k + 1, rfl, rfl, ?_, hk1, ?_⟩
          · have hz3 := hz.out
            have he3 := he.out
            rw [hE]
            simp only [if_true]
            exact congrArg (Value.int .i64) (by omega)
          · rw [f0_not hok.out hm.out (by rw [hbN.out, heN.out]; rintro ⟨h1, h2⟩; first | exact he.out h2 | (rw [hbig.out] at h1; simp at h1))]
            exact (Mem.only (M := [_, _, _, _, _]) HM33.out [0, 0, 0, 0, 0] rfl)
        · have g1 : decide ((0 : Int) < z) = false := decide_eq_false (by have := hz.out; omega)
          have g2 : decide (bI < hv) = false := decide_eq_false (by have := hhv.out; have := hbi.out; omega)
          have hbig : Hid (bigB now bN (j : Int) = false) := Lib.hid (decide_eq_false hb')
          have he := Lib.hid he
          have hb' := Lib.hid hb'
          refine wp_region_N [(0, 1), (1, 1), (2, 1), (3, 1), (4, 1), (5, 1), (6, 1), (7, 1), (8, 1), (9, 1), (10, 1)] (by kernel_rfl) ?_
          refine wpS_this [0, 1, 2, 3] rfl (by kernel_rfl) (by simp only [pickL, nthL, List.cons_append, List.nil_append]; rfl) ?_
          repeat (go_big_quiet_step (fail))
          refine wpQuiet_nil ?_
          refine wpS_skip (i := 4) (d := some 51) rfl (by rfl) rfl ?_
          simp only [Act.put, List.setIfInBounds_toArray, List.set_cons_succ, List.set_cons_zero]
          refine wpS_skip (i := 5) (d := some 52) rfl (by rfl) rfl ?_
          simp only [Act.put, List.setIfInBounds_toArray, List.set_cons_succ, List.set_cons_zero]
          refine wpS_this [6, 7, 8, 9, 10] rfl (by kernel_rfl) (by simp only [pickL, nthL, List.cons_append, List.nil_append]; rfl) ?_
          repeat (go_big_quiet_step (fail))
          refine wpQuiet_nil ?_
          refine wpS_nil ?_
          refine then_normal ?_
          refine wp_cond_false rfl ?_
          refine wp_skip ?_
          refine block_normal ?_
          refine then_normal ?_
          refine wp_region_N [(0, 1), (1, 1)] (by kernel_rfl) ?_
          refine wpS_this [0, 1] rfl (by kernel_rfl) (by simp only [pickL, nthL, List.cons_append, List.nil_append]; rfl) ?_
          repeat (go_big_quiet_step (fail))
          refine wpQuiet_nil ?_
          refine wpS_nil ?_
          refine then_normal ?_
          refine ⟨by kernel_rfl, ?_⟩
          have hE := bigsK_succ (now := now) hm.out
          rw [hbN.out, hbig.out] at hE
          refine ⟨M.length - (k + 1), by omega, k + 1, rfl, rfl, ?_, hk1, ?_⟩
          · have hz3 := hz.out
            have he3 := he.out
            rw [hE]
            simp only [if_false, Bool.false_eq_true]
            exact congrArg (Value.int .i64) (by omega)
          · rw [f0_not hok.out hm.out (by rw [hbN.out, heN.out]; rintro ⟨h1, h2⟩; first | exact he.out h2 | (rw [hbig.out] at h1; simp at h1))]
            exact (Mem.only (M := [_, _, _, _, _]) HM33.out [0, 0, 0, 0, 0] rfl)
      · have hge0 : Hid (M.length ≤ k) := Lib.hid (by have : ¬ (k : Int) < (M.length : Int) := (by simpa using h34); omega)
        clear h34
        refine wp_exit ?_
        refine then_exit (then_exit (block_exit ?_))
        refine block_normal ?_
        refine then_normal ?_
        refine wp_region_N [(0, 1), (1, 1)] (by kernel_rfl) ?_
        refine wpS_this [0, 1] rfl (by kernel_rfl) (by simp only [pickL, nthL, List.cons_append, List.nil_append]; rfl) ?_
        repeat (go_big_quiet_step (fail))
        refine wpQuiet_nil ?_
        refine wpS_nil ?_
        refine then_normal ?_
        refine rounds_step ?_
        refine wp_seq ?_
        refine wp_region_N [(0, 1)] (by kernel_rfl) ?_
        refine wpS_this [0] rfl (by kernel_rfl) (by simp only [pickL, nthL, List.cons_append, List.nil_append]; rfl) ?_
        repeat (go_big_quiet_step (fail))
        refine wpQuiet_nil ?_
        refine wpS_nil ?_
        refine then_normal ?_
        refine wp_seq ?_
        refine wp_cond_true rfl ?_
        refine wp_skip ?_
        refine then_normal ?_
        refine wp_seq ?_
        refine wp_block ?_
        refine wp_seq ?_
        refine wp_region_N [(0, 1), (1, 1)] (by kernel_rfl) ?_
        refine wpS_indexArrB (i := 0) (d := some 40) (j := 1) (l := [true, false]) is2b rfl (by rfl) rfl rfl rfl rfl rfl rfl ?_
        simp only [Act.put, List.setIfInBounds_toArray, List.set_cons_succ, List.set_cons_zero]
        refine wpS_this [1] rfl (by kernel_rfl) (by simp only [pickL, nthL, List.cons_append, List.nil_append]; rfl) ?_
        repeat (go_big_quiet_step (fail))
        refine wpQuiet_nil ?_
        refine wpS_nil ?_
        refine then_normal ?_
        refine wp_seq ?_
        refine wp_region_N [(0, 1), (1, 1), (2, 1)] (by kernel_rfl) ?_
        refine wpS_this [0, 1, 2] rfl (by kernel_rfl) (by simp only [pickL, nthL, List.cons_append, List.nil_append]; rfl) ?_
        repeat (go_big_quiet_step (fail))
        refine wpQuiet_nil ?_
        refine wpS_nil ?_
        refine then_normal ?_
        refine wp_block ?_
        refine wp_loop_F [7, 14, 43, 44, 45, 46, 47, 48, 49, 50, 51, 52, 53, 54, 55, 56, 57, 58, 59, 60, 61, 62, 63, 64, 65] (fun n vs W' => ∃ k : Nat, n = M.length - k ∧ vs 43 = .int .i64 (k : Int) ∧ vs 7 = .int .i64 ((eN - bigsK now M M.length - smallsK now M k : Nat) : Int) ∧ k ≤ M.length ∧ Mem [R, arrT ib 34 (ownL now), arrT rb 37 (List.replicate 8 0), arrT qb 37 (tabN (f1 now M k)), arrT cb 37 (tabN (cntK (ownL now) 16))] H w W') (n0 := M.length) ?_ ?_
        · have hkm : k = M.length := by have := hge0.out; omega
          subst hkm
          refine ⟨0, rfl, rfl, ?_, Nat.zero_le _, ?_⟩
          · rw [← hz.out]
            simp [smallsK]
          · rw [← f0_end]
            exact (Mem.only (M := [_, _, _, _, _]) HM33.out [0, 0, 0, 0, 0] rfl)
        rintro n vs W' ⟨k, rfl, e43, e7, hk, hmm⟩
        simp only [putAll, List.map_cons, List.map_nil, Act.put, List.setIfInBounds_toArray, List.set_cons_succ, List.set_cons_zero]
        rw [e43, e7]
        clear e43 e7
        obtain ⟨z, hz'⟩ : ∃ z : Int, ((eN - bigsK now M M.length - smallsK now M k : Nat) : Int) = z := ⟨_, rfl⟩
        rw [hz']
        have hz0 : 0 ≤ z ∧ z ≤ 16 := by rw [← hz']; omega
        obtain ⟨hz1, hz2⟩ := hz0
        have hz := Lib.hid hz'
        clear hz'
        have HM41 := Lib.hid hmm
        clear hmm
        refine wp_seq ?_
        refine wp_region_N [(0, 1)] (by kernel_rfl) ?_
        refine wpS_this [0] rfl (by kernel_rfl) (by simp only [pickL, nthL, List.cons_append, List.nil_append]; rfl) ?_
        repeat (go_big_quiet_step (fail))
        refine wpQuiet_nil ?_
        refine wpS_nil ?_
        refine then_normal ?_
        refine wp_seq ?_
        refine wp_cond_split rfl (fun h42 => ?_) (fun h42 => ?_)
        · have hk1 : k + 1 ≤ M.length := by have : (k : Int) < ((M.length : Nat) : Int) := (by simpa using h42); omega
          clear h42
          obtain ⟨m, hm'⟩ : ∃ y, M[k]? = some y := ⟨_, List.getElem?_eq_getElem hk1⟩
          have hmr := hok.out.node m (List.mem_of_getElem? hm')
          obtain ⟨j, rfl⟩ : ∃ j : Nat, m = (j : Int) := ⟨m.toNat, by omega⟩
          have hm := Lib.hid hm'
          clear hm'
          obtain ⟨hv, hhv'⟩ : ∃ z : Int, (hasK now (j : Int) 16 : Int) = z := ⟨_, rfl⟩
          have hcv : Hid (cntK (ownL now) 16 (j : Int) = hv) := Lib.hid ((own_count now (by omega)).trans hhv')
          have hhv := Lib.hid hhv'
          clear hhv'
          refine wp_skip ?_
          refine then_normal ?_
          refine wp_seq ?_
          refine wp_block ?_
          refine wp_seq ?_
          refine wp_region_N [(0, 1), (1, 1), (2, 1)] (by kernel_rfl) ?_
          refine wpS_index (E := elemI) (i := 0) (d := some 45) rfl (by rfl) rfl rfl rfl (HM41.out.row 0 rfl hM) (hm.out) rfl ?_
          intro eb43 eo44 hc45
          simp only [Act.put, List.setIfInBounds_toArray, List.set_cons_succ, List.set_cons_zero]
          refine wpS_load1 (i := 1) (d := some 46) (u := .int .i64 (j : Int)) rfl (by rfl) rfl rfl (hc45 0 _ rfl) Try.underlying3 rfl rfl ?_
          simp only [Act.put, List.setIfInBounds_toArray, List.set_cons_succ, List.set_cons_zero]
          refine wpS_this [2] rfl (by kernel_rfl) (by simp only [pickL, nthL, List.cons_append, List.nil_append]; rfl) ?_
          repeat (go_big_quiet_step (fail))
          refine wpQuiet_nil ?_
          refine wpS_nil ?_
          refine then_normal ?_
          refine wp_seq ?_
          by_cases he : bigsK now M M.length + smallsK now M k < eN <;> by_cases hb' : bN < hasK now (j : Int) 16
          · have g1 : decide ((0 : Int) < z) = true := decide_eq_true (by have := hz.out; omega)
            have g2 : decide (bI < hv) = true := decide_eq_true (by have := hhv.out; have := hbi.out; omega)
            have hbig : Hid (bigB now bN (j : Int) = true) := Lib.hid (decide_eq_true hb')
            have hzp : 0 < z := by have := hz.out; omega
            have he := Lib.hid he
            have hb' := Lib.hid hb'
            refine wp_region_N [(0, 1), (1, 1), (2, 1), (3, 1), (4, 1), (5, 1), (6, 1), (7, 1), (8, 1), (9, 1), (10, 1)] (by kernel_rfl) ?_
            refine wpS_this [0, 1, 2, 3] rfl (by kernel_rfl) (by simp only [pickL, nthL, List.cons_append, List.nil_append]; rfl) ?_
            repeat (go_big_quiet_step (fail))
            refine wpQuiet_nil ?_
            refine wpS_addrArr (i := 4) (d := some 51) (b := cb) (j := j) is8 rfl (by rfl) rfl rfl rfl (by omega) rfl ?_
            simp only [Act.put, List.setIfInBounds_toArray, List.set_cons_succ, List.set_cons_zero]
            refine wpS_loadEl (i := 5) (d := some 52) (y := hv) rfl (by rfl) rfl rfl (HM41.out.arr 4 rfl (by rw [tabN_at _ (by omega), hcv.out])) rfl ?_
            simp only [Act.put, List.setIfInBounds_toArray, List.set_cons_succ, List.set_cons_zero]
            refine wpS_this [6, 7, 8, 9, 10] rfl (by kernel_rfl) (by simp only [pickL, nthL, List.cons_append, List.nil_append]; rfl) ?_
            repeat (go_big_quiet_step (fail))
            refine wpQuiet_nil ?_
            refine wpS_nil ?_
            refine then_normal ?_
            refine wp_cond_false rfl ?_
            refine wp_skip ?_
            refine block_normal ?_
            refine then_normal ?_
            refine wp_region_N [(0, 1), (1, 1)] (by kernel_rfl) ?_
            refine wpS_this [0, 1] rfl (by kernel_rfl) (by simp only [pickL, nthL, List.cons_append, List.nil_append]; rfl) ?_
            repeat (go_big_quiet_step (fail))
            refine wpQuiet_nil ?_
            refine wpS_nil ?_
            refine then_normal ?_
            refine ⟨by kernel_rfl, ?_⟩
            have hE := smallsK_succ (now := now) hm.out
            rw [hbN.out, hbig.out] at hE
            refine ⟨M.length - (k + 1), by omega, k + 1, rfl, rfl, ?_, hk1, ?_⟩
            · have hz3 := hz.out
              have he3 := he.out
              rw [hE]
              simp only [if_true]
              exact congrArg (Value.int .i64) (by omega)
            · rw [f1_not hok.out hm.out (by rw [hbN.out, heN.out]; rintro ⟨h1, h2⟩; first | exact he.out h2 | (rw [hbig.out] at h1; simp at h1))]
              exact (Mem.only (M := [_, _, _, _, _]) HM41.out [0, 0, 0, 0, 0] rfl)
          · have g1 : decide ((0 : Int) < z) = true := decide_eq_true (by have := hz.out; omega)
            have g2 : decide (bI < hv) = false := decide_eq_false (by have := hhv.out; have := hbi.out; omega)
            have hbig : Hid (bigB now bN (j : Int) = false) := Lib.hid (decide_eq_false hb')
            have hat : Hid (f1 now M k (j : Int) = bI) := Lib.hid (by rw [f1_at hnd.out hm.out (by rw [hbN.out]; exact hbig.out), hbN.out, hbi.out])
            have hzp : 0 < z := by have := hz.out; omega
            have he := Lib.hid he
            have hb' := Lib.hid hb'
            refine wp_region_N [(0, 1), (1, 1), (2, 1), (3, 1), (4, 1), (5, 1), (6, 1), (7, 1), (8, 1), (9, 1), (10, 1)] (by kernel_rfl) ?_
            refine wpS_this [0, 1, 2, 3] rfl (by kernel_rfl) (by simp only [pickL, nthL, List.cons_append, List.nil_append]; rfl) ?_
            repeat (go_big_quiet_step (fail))
            refine wpQuiet_nil ?_
            refine wpS_addrArr (i := 4) (d := some 51) (b := cb) (j := j) is8 rfl (by rfl) rfl rfl rfl (by omega) rfl ?_
            simp only [Act.put, List.setIfInBounds_toArray, List.set_cons_succ, List.set_cons_zero]
            refine wpS_loadEl (i := 5) (d := some 52) (y := hv) rfl (by rfl) rfl rfl (HM41.out.arr 4 rfl (by rw [tabN_at _ (by omega), hcv.out])) rfl ?_
            simp only [Act.put, List.setIfInBounds_toArray, List.set_cons_succ, List.set_cons_zero]
            refine wpS_this [6, 7, 8, 9, 10] rfl (by kernel_rfl) (by simp only [pickL, nthL, List.cons_append, List.nil_append]; rfl) ?_
            repeat (go_big_quiet_step (fail))
            refine wpQuiet_nil ?_
            refine wpS_nil ?_
            refine then_normal ?_
            refine wp_cond_true rfl ?_
            refine wp_seq ?_
            refine wp_region_N [(0, 1), (1, 1), (2, 1), (3, 1), (4, 1), (5, 3)] (by kernel_rfl) ?_
            refine wpS_this [0] rfl (by kernel_rfl) (by simp only [pickL, nthL, List.cons_append, List.nil_append]; rfl) ?_
            repeat (go_big_quiet_step (fail))
            refine wpQuiet_nil ?_
            refine wpS_addrArr (i := 1) (d := some 59) (b := qb) (j := j) is8 rfl (by rfl) rfl rfl rfl (by omega) rfl ?_
            simp only [Act.put, List.setIfInBounds_toArray, List.set_cons_succ, List.set_cons_zero]
            refine wpS_loadEl (i := 2) (d := some 60) (y := bI) rfl (by rfl) rfl rfl (HM41.out.arr 3 rfl (by rw [tabN_at _ (by omega), hat.out])) rfl ?_
            simp only [Act.put, List.setIfInBounds_toArray, List.set_cons_succ, List.set_cons_zero]
            refine wpS_this [3] rfl (by kernel_rfl) (by simp only [pickL, nthL, List.cons_append, List.nil_append]; rfl) ?_
            repeat (go_big_quiet_step (fail))
            refine wpQuiet_nil ?_
            refine wpS_addrArr (i := 4) (d := some 62) (b := qb) (j := j) is8 rfl (by rfl) rfl rfl rfl (by omega) rfl ?_
            simp only [Act.put, List.setIfInBounds_toArray, List.set_cons_succ, List.set_cons_zero]
            refine wpS_setEl (i := 5) (z := (bI + 1)) (L2 := [_, _, _, _]) rfl (by rfl) rfl rfl rfl HM41.out 3 rfl rfl (by rw [tabN_len]; omega) covS_nil rfl ?_
            rintro W47 hm46 -
            have HM48 := Lib.hid hm46
            clear hm46
            refine wpS_nil ?_
            refine then_normal ?_
            refine wp_region_N [(0, 1), (1, 1), (2, 1)] (by kernel_rfl) ?_
            refine wpS_this [0, 1, 2] rfl (by kernel_rfl) (by simp only [pickL, nthL, List.cons_append, List.nil_append]; rfl) ?_
            repeat (go_big_quiet_step (fail))
            refine wpQuiet_nil ?_
            refine wpS_nil ?_
            refine block_normal ?_
            refine then_normal ?_
            refine wp_region_N [(0, 1), (1, 1)] (by kernel_rfl) ?_
            refine wpS_this [0, 1] rfl (by kernel_rfl) (by simp only [pickL, nthL, List.cons_append, List.nil_append]; rfl) ?_
            repeat (go_big_quiet_step (fail))
            refine wpQuiet_nil ?_
            refine wpS_nil ?_
            refine then_normal ?_
            refine ⟨by kernel_rfl, ?_⟩
            have hE := smallsK_succ (now := now) hm.out
            rw [hbN.out, hbig.out] at hE
            refine ⟨M.length - (k + 1), by omega, k + 1, rfl, rfl, ?_, hk1, ?_⟩
            · have hz3 := hz.out
              have he3 := he.out
              rw [hE]
              simp only [if_false, Bool.false_eq_true]
              exact congrArg (Value.int .i64) (by omega)
            · rw [f1_give hok.out hm.out (by rw [hbN.out]; exact hbig.out) (by rw [heN.out]; exact he.out), hbN.out, hbi.out]
              exact (Mem.only (M := [_, _, _, _, _]) HM48.out [1, 1, 1, 0, 0] rfl)
          · have g1 : decide ((0 : Int) < z) = false := decide_eq_false (by have := hz.out; omega)
            have g2 : decide (bI < hv) = true := decide_eq_true (by have := hhv.out; have := hbi.out; omega)
            have hbig : Hid (bigB now bN (j : Int) = true) := Lib.hid (decide_eq_true hb')
            have he := Lib.hid he
            have hb' := Lib.hid hb'
            refine wp_region_N [(0, 1), (1, 1), (2, 1), (3, 1), (4, 1), (5, 1), (6, 1), (7, 1), (8, 1), (9, 1), (10, 1)] (by kernel_rfl) ?_
            refine wpS_this [0, 1, 2, 3] rfl (by kernel_rfl) (by simp only [pickL, nthL, List.cons_append, List.nil_append]; rfl) ?_
            repeat (go_big_quiet_step (fail))
            refine wpQuiet_nil ?_
            refine wpS_skip (i := 4) (d := some 51) rfl (by rfl) rfl ?_
            simp only [Act.put, List.setIfInBounds_toArray, List.set_cons_succ, List.set_cons_zero]
            refine wpS_skip (i := 5) (d := some 52) rfl (by rfl) rfl ?_
            simp only [Act.put, List.setIfInBounds_toArray, List.set_cons_succ, List.set_cons_zero]
            refine wpS_this [6, 7, 8, 9, 10] rfl (by kernel_rfl) (by simp only [pickL, nthL, List.cons_append, List.nil_append]; rfl) ?_
            repeat (go_big_quiet_step (fail))
            refine wpQuiet_nil ?_
            refine wpS_nil ?_
            refine then_normal ?_
            refine wp_cond_false rfl ?_
            refine wp_skip ?_
            refine block_normal ?_
            refine then_normal ?_
            refine wp_region_N [(0, 1), (1, 1)] (by kernel_rfl) ?_
            refine wpS_this [0, 1] rfl (by kernel_rfl) (by simp only [pickL, nthL, List.cons_append, List.nil_append]; rfl) ?_
            repeat (go_big_quiet_step (fail))
            refine wpQuiet_nil ?_
            refine wpS_nil ?_
            refine then_normal ?_
            refine ⟨by kernel_rfl, ?_⟩
            have hE := smallsK_succ (now := now) hm.out
            rw [hbN.out, hbig.out] at hE
            refine ⟨M.length - (k + 1), by omega, k + 1, rfl, rfl, ?_, hk1, ?_⟩
            · have hz3 := hz.out
              have he3 := he.out
              rw [hE]
              simp only [if_true]
              exact congrArg (Value.int .i64) (by omega)
            · rw [f1_not hok.out hm.out (by rw [hbN.out, heN.out]; rintro ⟨h1, h2⟩; first | exact he.out h2 | (rw [hbig.out] at h1; simp at h1))]
              exact (Mem.only (M := [_, _, _, _, _]) HM41.out [0, 0, 0, 0, 0] rfl)
          · have g1 : decide ((0 : Int) < z) = false := decide_eq_false (by have := hz.out; omega)
            have g2 : decide (bI < hv) = false := decide_eq_false (by have := hhv.out; have := hbi.out; omega)
            have hbig : Hid (bigB now bN (j : Int) = false) := Lib.hid (decide_eq_false hb')
            have he := Lib.hid he
            have hb' := Lib.hid hb'
            refine wp_region_N [(0, 1), (1, 1), (2, 1), (3, 1), (4, 1), (5, 1), (6, 1), (7, 1), (8, 1), (9, 1), (10, 1)] (by kernel_rfl) ?_
            refine wpS_this [0, 1, 2, 3] rfl (by kernel_rfl) (by simp only [pickL, nthL, List.cons_append, List.nil_append]; rfl) ?_
            repeat (go_big_quiet_step (fail))
            refine wpQuiet_nil ?_
            refine wpS_skip (i := 4) (d := some 51) rfl (by rfl) rfl ?_
            simp only [Act.put, List.setIfInBounds_toArray, List.set_cons_succ, List.set_cons_zero]
            refine wpS_skip (i := 5) (d := some 52) rfl (by rfl) rfl ?_
            simp only [Act.put, List.setIfInBounds_toArray, List.set_cons_succ, List.set_cons_zero]
            refine wpS_this [6, 7, 8, 9, 10] rfl (by kernel_rfl) (by simp only [pickL, nthL, List.cons_append, List.nil_append]; rfl) ?_
            repeat (go_big_quiet_step (fail))
            refine wpQuiet_nil ?_
            refine wpS_nil ?_
            refine then_normal ?_
            refine wp_cond_false rfl ?_
            refine wp_skip ?_
            refine block_normal ?_
            refine then_normal ?_
            refine wp_region_N [(0, 1), (1, 1)] (by kernel_rfl) ?_
            refine wpS_this [0, 1] rfl (by kernel_rfl) (by simp only [pickL, nthL, List.cons_append, List.nil_append]; rfl) ?_
            repeat (go_big_quiet_step (fail))
            refine wpQuiet_nil ?_
            refine wpS_nil ?_
            refine then_normal ?_
            refine ⟨by kernel_rfl, ?_⟩
            have hE := smallsK_succ (now := now) hm.out
            rw [hbN.out, hbig.out] at hE
            refine ⟨M.length - (k + 1), by omega, k + 1, rfl, rfl, ?_, hk1, ?_⟩
            · have hz3 := hz.out
              have he3 := he.out
              rw [hE]
              simp only [if_false, Bool.false_eq_true]
              exact congrArg (Value.int .i64) (by omega)
            · rw [f1_not hok.out hm.out (by rw [hbN.out, heN.out]; rintro ⟨h1, h2⟩; first | exact he.out h2 | (rw [hbig.out] at h1; simp at h1))]
              exact (Mem.only (M := [_, _, _, _, _]) HM41.out [0, 0, 0, 0, 0] rfl)
        · have hge1 : Hid (M.length ≤ k) := Lib.hid (by have : ¬ (k : Int) < (M.length : Int) := (by simpa using h42); omega)
          clear h42
          refine wp_exit ?_
          refine then_exit (then_exit (block_exit ?_))
          refine block_normal ?_
          refine then_normal ?_
          refine wp_region_N [(0, 1), (1, 1)] (by kernel_rfl) ?_
          refine wpS_this [0, 1] rfl (by kernel_rfl) (by simp only [pickL, nthL, List.cons_append, List.nil_append]; rfl) ?_
          repeat (go_big_quiet_step (fail))
          refine wpQuiet_nil ?_
          refine wpS_nil ?_
          refine then_normal ?_
          refine rounds_step ?_
          refine wp_seq ?_
          refine wp_region_N [(0, 1)] (by kernel_rfl) ?_
          refine wpS_this [0] rfl (by kernel_rfl) (by simp only [pickL, nthL, List.cons_append, List.nil_append]; rfl) ?_
          repeat (go_big_quiet_step (fail))
          refine wpQuiet_nil ?_
          refine wpS_nil ?_
          refine then_normal ?_
          refine wp_seq ?_
          refine wp_cond_false rfl ?_
          refine wp_exit ?_
          refine then_exit (then_exit (block_exit ?_))
          refine then_normal ?_
          refine wp_seq ?_
          refine wp_region_N [(0, 1), (1, 3)] (by kernel_rfl) ?_
          refine wpS_loadArr (i := 0) (d := some 67) is8 rfl (by rfl) rfl rfl HM41.out 3 rfl (tabN_len _) rfl ?_
          simp only [Act.put, List.setIfInBounds_toArray, List.set_cons_succ, List.set_cons_zero]
          refine wpS_storeArr (i := 1) (L2 := [_, _, _, _]) is8 rfl (by rfl) rfl rfl rfl HM41.out 2 rfl rfl (List.length_replicate) (tabN_len _) covS_nil rfl ?_
          rintro W50 hm49 -
          have HM51 := Lib.hid hm49
          clear hm49
          refine wpS_nil ?_
          refine then_normal ?_
          refine wp_ret ?_
          refine ret_arr rfl is8 HM51.out 0 rfl rfl (tabN_len _) rfl ?_
          have hkm : k = M.length := by have := hge1.out; omega
          subst hkm
          exact does_ret (Mem.only (M := [_]) HM51.out [1] rfl) (by rw [f1_end]) rfl
end
end Go.Proofs.Ythibiejneggmoaa
