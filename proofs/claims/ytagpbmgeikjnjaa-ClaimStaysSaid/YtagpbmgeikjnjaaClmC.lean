/- The reference's Assign. -/
import Derived.Test.YtagpbmgeikjnjaaClmB
import Derived.Test.YtagpbmgeikjnjaaClmS
namespace Go.Proofs.Ytagpbmgeikjnjaa
open Go Go.RowKit Go.BigFrame

theorem ways6 (p a b c d : Prop) : ¬ p ∨ (p ∧ a) ∨ (p ∧ ¬ a ∧ b) ∨ (p ∧ ¬ a ∧ ¬ b ∧ (c ∨ (¬ c ∧ d) ∨ (¬ c ∧ ¬ d))) := by
  by_cases hp : p <;> by_cases ha : a <;> by_cases hb : b <;> by_cases hc : c <;> by_cases hd : d <;> simp [hp, ha, hb, hc, hd]
theorem ways4 (p c d : Prop) : ¬ p ∨ (p ∧ (c ∨ (¬ c ∧ d) ∨ (¬ c ∧ ¬ d))) := by
  by_cases hp : p <;> by_cases hc : c <;> by_cases hd : d <;> simp [hp, hc, hd]
set_option maxHeartbeats 4000000 in
set_option maxRecDepth 100000 in
theorem rassign_d (R : At) (vn vm : Value) (now ms : List Int) (hN : ∀ W H, R.p W H → RowAt elemI W vn now) (hM : ∀ W H, R.p W H → RowAt elemI W vm ms) (hml : ms.length ≤ 1000) : DoesU Try.prog 18 #[vn, vm] [R] (fun u => [rowT elemI u (assignOf now (peersOf ms (-1))), R]) := by
  intro w H hp
  have HM0 := Lib.hid (mem_refl hp)
  clear hp
  go_enter Try.func18, Try.ntmps18
  refine wp_seq ?_
  refine wp_region_N [(0, 1)] (by kernel_rfl) ?_
  refine wpS_this [0] rfl (by kernel_rfl) (by simp only [pickL, nthL, List.cons_append, List.nil_append]; rfl) ?_
  repeat (go_big_quiet_step (fail))
  refine wpQuiet_nil ?_
  refine wpS_nil ?_
  refine then_normal ?_
  refine wp_seq ?_
  refine wp_region_N [(0, 1), (1, 3), (2, 1)] (by kernel_rfl) ?_
  refine wpS_this [0] rfl (by kernel_rfl) (by simp only [pickL, nthL, List.cons_append, List.nil_append]; rfl) ?_
  repeat (go_big_quiet_step (fail))
  refine wpQuiet_nil ?_
  refine wpS_doesU2 (i := 1) (d := some 19) (rem := []) rfl (by rfl) rfl Try.call14 (rpeers_d R vm ms (-1) hM hml) rfl rfl HM0.out [0] rfl covS_nil (fun _ => rfl) rfl ?_
  rintro u3 W2 hm1 -
  have hok := peersOf_ok ms (-1)
  obtain ⟨M, hMe'⟩ : ∃ x, peersOf ms (-1) = x := ⟨_, rfl⟩
  rw [hMe'] at hm1 hok
  obtain ⟨mp, mc, rfl⟩ := row_form (Mem.src hm1 0 rfl rowT_reads)
  have hM8 : M.length ≤ 8 := by rw [← hMe']; exact peersOf_len8 _ _
  have hok := Lib.hid hok
  have hnd : Hid M.Nodup := Lib.hid hok.out.nodup
  have hMe := Lib.hid hMe'
  clear hMe'
  have HM4 := Lib.hid hm1
  clear hm1
  simp only [Act.put, List.setIfInBounds_toArray, List.set_cons_succ, List.set_cons_zero]
  refine wpS_this [2] rfl (by kernel_rfl) (by simp only [pickL, nthL, List.cons_append, List.nil_append]; rfl) ?_
  repeat (go_big_quiet_step (fail))
  refine wpQuiet_nil ?_
  refine wpS_nil ?_
  refine then_normal ?_
  refine wp_seq ?_
  by_cases h0 : M.length = 0
  · have g1 : ((M.length : Int) == 0) = true := beq_iff_eq.2 (by omega)
    have h0e : M = [] := List.eq_nil_of_length_eq_zero h0
    refine wp_region_N [(0, 1), (1, 1), (2, 3), (3, 1)] (by kernel_rfl) ?_
    refine wpS_this [0, 1] rfl (by kernel_rfl) (by simp only [pickL, nthL, List.cons_append, List.nil_append]; rfl) ?_
    repeat (go_big_quiet_step (fail))
    refine wpQuiet_nil ?_
    refine wpS_doesU2 (i := 2) (d := some 22) (rem := [_]) rfl (by rfl) rfl Try.call16 (rquotas_d R vn vm now ms hN hM hml) rfl rfl HM4.out [1] rfl covS_nil (fun _ => rfl) rfl ?_
    rintro uq7 W6 hm5 -
    have HM8 := Lib.hid hm5
    clear hm5
    simp only [Act.put, List.setIfInBounds_toArray, List.set_cons_succ, List.set_cons_zero]
    refine wpS_this [3] rfl (by kernel_rfl) (by simp only [pickL, nthL, List.cons_append, List.nil_append]; rfl) ?_
    repeat (go_big_quiet_step (fail))
    refine wpQuiet_nil ?_
    refine wpS_nil ?_
    refine then_normal ?_
    refine wp_seq ?_
    refine wp_seq ?_
    refine wp_region_N [(0, 1), (1, 1), (2, 1)] (by kernel_rfl) ?_
    refine wpS_this [0, 1, 2] rfl (by kernel_rfl) (by simp only [pickL, nthL, List.cons_append, List.nil_append]; rfl) ?_
    repeat (go_big_quiet_step (fail))
    refine wpQuiet_nil ?_
    refine wpS_nil ?_
    refine then_normal ?_
    refine wp_cond_true rfl ?_
    refine wp_seq ?_
    refine wp_region_N [(0, 1)] (by kernel_rfl) ?_
    refine wpS_this [0] rfl (by kernel_rfl) (by simp only [pickL, nthL, List.cons_append, List.nil_append]; rfl) ?_
    repeat (go_big_quiet_step (fail))
    refine wpQuiet_nil ?_
    refine wpS_nil ?_
    refine then_normal ?_
    refine wp_ret ?_
    refine then_ret ?_
    refine bodyPost_ret (results_tmp rfl _ _ _) rfl ?_
    exact doesU_ret (post := fun u => [rowT elemI u (assignOf now (peersOf ms (-1))), R]) (by rw [hMe.out, h0e, show assignOf now [] = [] from if_pos rfl]; exact Mem.nilRow elemI (Mem.only (M := [_]) HM8.out [1] rfl)) rfl
  · have g1 : ((M.length : Int) == 0) = false := beq_eq_false_iff_ne.2 (by omega)
    have hne : Hid (M ≠ []) := Lib.hid (fun e => h0 (by rw [e]; rfl))
    refine wp_region_N [(0, 1), (1, 1), (2, 3), (3, 1)] (by kernel_rfl) ?_
    refine wpS_this [0, 1] rfl (by kernel_rfl) (by simp only [pickL, nthL, List.cons_append, List.nil_append]; rfl) ?_
    repeat (go_big_quiet_step (fail))
    refine wpQuiet_nil ?_
    refine wpS_doesU2 (i := 2) (d := some 22) (rem := [_]) rfl (by rfl) rfl Try.call16 (rquotas_m R vn vm now ms hN hM hml (by rw [hMe.out]; exact hne.out)) rfl rfl HM4.out [1] rfl covS_nil (fun _ => rfl) rfl ?_
    rintro uq11 W10 hm9 -
    rw [hMe.out] at hm9
    obtain ⟨qb, hm9a⟩ := Mem.ex hm9
    obtain ⟨hu, hm9b⟩ := Mem.pr hm9a
    subst hu
    clear hm9 hm9a
    have HM12 := Lib.hid hm9b
    clear hm9b
    simp only [Act.put, List.setIfInBounds_toArray, List.set_cons_succ, List.set_cons_zero]
    refine wpS_this [3] rfl (by kernel_rfl) (by simp only [pickL, nthL, List.cons_append, List.nil_append]; rfl) ?_
    repeat (go_big_quiet_step (fail))
    refine wpQuiet_nil ?_
    refine wpS_nil ?_
    refine then_normal ?_
    refine wp_seq ?_
    refine wp_seq ?_
    refine wp_region_N [(0, 1), (1, 1), (2, 1)] (by kernel_rfl) ?_
    refine wpS_this [0, 1, 2] rfl (by kernel_rfl) (by simp only [pickL, nthL, List.cons_append, List.nil_append]; rfl) ?_
    repeat (go_big_quiet_step (fail))
    refine wpQuiet_nil ?_
    refine wpS_nil ?_
    refine then_normal ?_
    refine wp_cond_false rfl ?_
    refine wp_skip ?_
    refine then_normal ?_
    refine wp_seq ?_
    refine wp_region_N [(0, 3), (1, 1)] (by kernel_rfl) ?_
    refine wpS_makeI (i := 0) (dd := 26) (n := 16) rfl (by rfl) rfl rfl rfl (by omega) HM12.out covS_nil rfl ?_
    rintro ob W16 hm15 -
    have HM17 := Lib.hid hm15
    clear hm15
    simp only [Act.put, List.setIfInBounds_toArray, List.set_cons_succ, List.set_cons_zero]
    refine wpS_this [1] rfl (by kernel_rfl) (by simp only [pickL, nthL, List.cons_append, List.nil_append]; rfl) ?_
    repeat (go_big_quiet_step (fail))
    refine wpQuiet_nil ?_
    refine wpS_nil ?_
    refine then_normal ?_
    refine wp_seq ?_
    refine wp_seq ?_
    refine wp_region_N [(0, 1), (1, 1), (2, 1)] (by kernel_rfl) ?_
    refine wpS_this [0, 1, 2] rfl (by kernel_rfl) (by simp only [pickL, nthL, List.cons_append, List.nil_append]; rfl) ?_
    repeat (go_big_quiet_step (fail))
    refine wpQuiet_nil ?_
    refine wpS_nil ?_
    refine then_normal ?_
    refine wp_block ?_
    refine wp_loop_F [8, 9, 10, 29, 30, 31, 32, 33, 34, 35, 36, 37, 38, 39, 40, 41, 42, 43, 44, 45, 46, 47, 48, 49, 50, 51, 52, 53, 54, 55, 56, 57, 58, 59, 60, 61, 62, 63, 64, 65] (fun n vs W' => ∃ k : Nat, n = 16 - k ∧ vs 29 = .int .i64 (k : Int) ∧ k ≤ 16 ∧ Mem [R, rowT elemI (.slice mp M.length mc) M, intsT ob (oA now M (quotaOf now M) k), intsT qb (M.map (keepK now M (quotaOf now M) k).2)] H w W') (n0 := 16) ?_ ?_
    · exact ⟨0, rfl, rfl, Nat.zero_le _, (Mem.only (M := [_, _, _, _]) HM17.out [2, 2, 0, 0] rfl)⟩
    rintro n vs W' ⟨k, rfl, e29, hk, hmm⟩
    simp only [putAll, List.map_cons, List.map_nil, Act.put, List.setIfInBounds_toArray, List.set_cons_succ, List.set_cons_zero]
    rw [e29]
    clear e29
    have hO1n : (oA now M (quotaOf now M) k).length = 16 := oA_len now M _ hk
    have hLb : ∀ m ∈ M, (keepK now M (quotaOf now M) k).2 m ≤ 17 := fun m h => keep_bound hok.out h
    obtain ⟨O1, hO1'⟩ : ∃ z : List Int, oA now M (quotaOf now M) k = z := ⟨_, rfl⟩
    rw [hO1'] at hmm hO1n
    obtain ⟨L1, hL1'⟩ : ∃ z : Int → Int, (keepK now M (quotaOf now M) k).2 = z := ⟨_, rfl⟩
    rw [hL1'] at hmm hLb
    have hLb := Lib.hid hLb
    have hO1 := Lib.hid hO1'
    clear hO1'
    have hL1 := Lib.hid hL1'
    clear hL1'
    have HM18 := Lib.hid hmm
    clear hmm
    refine wp_seq ?_
    refine wp_region_N [(0, 1)] (by kernel_rfl) ?_
    refine wpS_this [0] rfl (by kernel_rfl) (by simp only [pickL, nthL, List.cons_append, List.nil_append]; rfl) ?_
    repeat (go_big_quiet_step (fail))
    refine wpQuiet_nil ?_
    refine wpS_nil ?_
    refine then_normal ?_
    refine wp_seq ?_
    refine wp_cond_split rfl (fun h19 => ?_) (fun h19 => ?_)
    · have hk1 : k + 1 ≤ 16 := by have : (k : Int) < ((16 : Nat) : Int) := (by simpa using h19); omega
      clear h19
      refine wp_skip ?_
      refine then_normal ?_
      refine wp_seq ?_
      refine wp_block ?_
      refine wp_seq ?_
      refine wp_region_N [(0, 1), (1, 1)] (by kernel_rfl) ?_
      refine wpS_this [0, 1] rfl (by kernel_rfl) (by simp only [pickL, nthL, List.cons_append, List.nil_append]; rfl) ?_
      repeat (go_big_quiet_step (fail))
      refine wpQuiet_nil ?_
      refine wpS_nil ?_
      refine then_normal ?_
      refine wp_seq ?_
      refine wp_region_N [(0, 1), (1, 1), (2, 1), (3, 3)] (by kernel_rfl) ?_
      refine wpS_this [0, 1] rfl (by kernel_rfl) (by simp only [pickL, nthL, List.cons_append, List.nil_append]; rfl) ?_
      repeat (go_big_quiet_step (fail))
      refine wpQuiet_nil ?_
      refine wpS_addrI (i := 2) (d := some 34) (b := ob) (n := 16) (j := k) rfl (by rfl) rfl rfl rfl (by omega) rfl ?_
      simp only [Act.put, List.setIfInBounds_toArray, List.set_cons_succ, List.set_cons_zero]
      refine wpS_setI (i := 3) (z := (-1)) (L2 := [_, _, _]) rfl (by rfl) rfl rfl rfl HM18.out 2 rfl rfl (by omega) covS_nil rfl ?_
      rintro W21 hm20 -
      have HM22 := Lib.hid hm20
      clear hm20
      refine wpS_nil ?_
      refine then_normal ?_
      refine wp_seq ?_
      refine wp_region_N [(0, 1), (1, 1), (2, 1)] (by kernel_rfl) ?_
      refine wpS_this [0, 1, 2] rfl (by kernel_rfl) (by simp only [pickL, nthL, List.cons_append, List.nil_append]; rfl) ?_
      repeat (go_big_quiet_step (fail))
      refine wpQuiet_nil ?_
      refine wpS_nil ?_
      refine then_normal ?_
      refine wp_block ?_
      refine wp_loop_F [9, 10, 37, 38, 39, 40, 41, 42, 43, 44, 45, 46, 47, 48, 49, 50, 51, 52, 53, 54, 55, 56, 57, 58, 59, 60, 61, 62, 63, 64] (fun n ws W' => ∃ i : Nat, n = M.length - i ∧ ws 37 = .int .i64 (i : Int) ∧ i ≤ M.length ∧ Mem [R, rowT elemI (.slice mp M.length mc) M, intsT ob (O1.set k (keepV M L1 (atL now k) i)), intsT qb (M.map (keepL M L1 (atL now k) i))] H w W') (n0 := M.length) ?_ ?_
      · refine ⟨0, rfl, rfl, Nat.zero_le _, ?_⟩
        rw [keepV_zero, keepL_zero]
        exact (Mem.only (M := [_, _, _, _]) HM22.out [1, 1, 0, 0] rfl)
      rintro n ws W' ⟨i, rfl, e37, hi, hmm2⟩
      simp only [putAll, List.map_cons, List.map_nil, Act.put, List.setIfInBounds_toArray, List.set_cons_succ, List.set_cons_zero]
      rw [e37]
      clear e37
      obtain ⟨kv, hkv'⟩ : ∃ z : Int, keepV M L1 (atL now k) i = z := ⟨_, rfl⟩
      rw [hkv'] at hmm2
      obtain ⟨L2, hL2'⟩ : ∃ z : Int → Int, keepL M L1 (atL now k) i = z := ⟨_, rfl⟩
      rw [hL2'] at hmm2
      have hkv := Lib.hid hkv'
      clear hkv'
      have hL2 := Lib.hid hL2'
      clear hL2'
      have HM23 := Lib.hid hmm2
      clear hmm2
      refine wp_seq ?_
      refine wp_region_N [(0, 1)] (by kernel_rfl) ?_
      refine wpS_this [0] rfl (by kernel_rfl) (by simp only [pickL, nthL, List.cons_append, List.nil_append]; rfl) ?_
      repeat (go_big_quiet_step (fail))
      refine wpQuiet_nil ?_
      refine wpS_nil ?_
      refine then_normal ?_
      refine wp_seq ?_
      refine wp_cond_split rfl (fun h24 => ?_) (fun h24 => ?_)
      · have hi1 : i + 1 ≤ M.length := by have : (i : Int) < ((M.length : Nat) : Int) := (by simpa using h24); omega
        clear h24
        obtain ⟨m, hm⟩ : ∃ y, M[i]? = some y := ⟨_, List.getElem?_eq_getElem hi1⟩
        refine wp_skip ?_
        refine then_normal ?_
        refine wp_seq ?_
        refine wp_block ?_
        refine wp_seq ?_
        refine wp_region_N [(0, 1), (1, 1), (2, 1), (3, 1), (4, 1)] (by kernel_rfl) ?_
        refine wpS_this [0] rfl (by kernel_rfl) (by simp only [pickL, nthL, List.cons_append, List.nil_append]; rfl) ?_
        repeat (go_big_quiet_step (fail))
        refine wpQuiet_nil ?_
        refine wpS_index (E := elemI) (i := 1) (d := some 40) rfl (by rfl) rfl rfl rfl (rowAt_src (HM23.out.src 1 rfl rowT_reads)) (hm) rfl ?_
        intro eb25 eo26 hc27
        simp only [Act.put, List.setIfInBounds_toArray, List.set_cons_succ, List.set_cons_zero]
        refine wpS_load1 (i := 2) (d := some 41) (u := .int .i64 m) rfl (by rfl) rfl rfl (hc27 0 _ rfl) Try.underlying3 rfl rfl ?_
        simp only [Act.put, List.setIfInBounds_toArray, List.set_cons_succ, List.set_cons_zero]
        refine wpS_this [3, 4] rfl (by kernel_rfl) (by simp only [pickL, nthL, List.cons_append, List.nil_append]; rfl) ?_
        repeat (go_big_quiet_step (fail))
        refine wpQuiet_nil ?_
        refine wpS_nil ?_
        refine then_normal ?_
        refine wp_seq ?_
        rcases (show (atL now k = m ∧ 0 < L1 m) ∨ (atL now k = m ∧ ¬ 0 < L1 m) ∨ atL now k ≠ m from by by_cases h1 : atL now k = m <;> by_cases h2 : 0 < L1 m <;> simp [h1, h2]) with ⟨ha, hp⟩ | ⟨ha, hp⟩ | ha
        · have hL21' : L2 = L1 := by rw [← hL2.out, ha]; exact keepL_at hnd.out hm
          obtain ⟨lv, hlv'⟩ : ∃ z : Int, L1 m = z := ⟨_, rfl⟩
          have g1 : (atL now k == m) = true := beq_iff_eq.2 ha
          have g2 : decide ((0 : Int) < lv) = true := decide_eq_true (by rw [← hlv']; exact hp)
          have hlvq : (M.map L2)[i]? = some lv := by rw [List.getElem?_map, hm, hL21', ← hlv']; rfl
          have hlv2 : lv ≤ 17 := by rw [← hlv']; exact hLb.out m (List.mem_of_getElem? hm)
          have hlv1 : 0 < lv := by rw [← hlv']; exact hp
          have hlvq := Lib.hid hlvq
          have hp := Lib.hid hp
          have ha := Lib.hid ha
          have hlv := Lib.hid hlv'
          clear hlv'
          have hL21 := Lib.hid hL21'
          clear hL21'
          refine wp_region_N [(0, 1), (1, 1), (2, 3), (3, 1), (4, 1), (5, 1), (6, 1), (7, 1), (8, 1), (9, 1), (10, 1), (11, 1)] (by kernel_rfl) ?_
          refine wpS_this [0, 1] rfl (by kernel_rfl) (by simp only [pickL, nthL, List.cons_append, List.nil_append]; rfl) ?_
          repeat (go_big_quiet_step (fail))
          refine wpQuiet_nil ?_
          refine wpS_does2 (i := 2) (d := some 44) (rem := [_, _, _]) (out := [_, _, _, _]) rfl (by rfl) rfl Try.call25 (rat_d R vn now k hN) rfl rfl HM23.out [0] rfl covS_nil rfl rfl ?_
          rintro W29 hm28 -
          have HM30 := Lib.hid hm28
          clear hm28
          simp only [Act.put, List.setIfInBounds_toArray, List.set_cons_succ, List.set_cons_zero]
          refine wpS_this [3, 4, 5, 6, 7] rfl (by kernel_rfl) (by simp only [pickL, nthL, List.cons_append, List.nil_append]; rfl) ?_
          repeat (go_big_quiet_step (fail))
          refine wpQuiet_nil ?_
          refine wpS_addrI (i := 8) (d := some 50) (b := qb) (n := M.length) (j := i) rfl (by rfl) rfl rfl rfl (by omega) rfl ?_
          simp only [Act.put, List.setIfInBounds_toArray, List.set_cons_succ, List.set_cons_zero]
          refine wpS_load1 (i := 9) (d := some 51) (u := .int .i64 lv) rfl (by rfl) rfl rfl ((HM30.out.cellL 3 rfl i).trans (by rw [List.getElem?_map, hlvq.out]; rfl)) Try.underlying3 rfl rfl ?_
          simp only [Act.put, List.setIfInBounds_toArray, List.set_cons_succ, List.set_cons_zero]
          refine wpS_this [10, 11] rfl (by kernel_rfl) (by simp only [pickL, nthL, List.cons_append, List.nil_append]; rfl) ?_
          repeat (go_big_quiet_step (fail))
          refine wpQuiet_nil ?_
          refine wpS_nil ?_
          refine then_normal ?_
          refine wp_cond_true rfl ?_
          refine wp_seq ?_
          refine wp_region_N [(0, 1), (1, 1), (2, 1), (3, 1), (4, 3)] (by kernel_rfl) ?_
          refine wpS_this [0, 1, 2] rfl (by kernel_rfl) (by simp only [pickL, nthL, List.cons_append, List.nil_append]; rfl) ?_
          repeat (go_big_quiet_step (fail))
          refine wpQuiet_nil ?_
          refine wpS_addrI (i := 3) (d := some 57) (b := ob) (n := 16) (j := k) rfl (by rfl) rfl rfl rfl (by omega) rfl ?_
          simp only [Act.put, List.setIfInBounds_toArray, List.set_cons_succ, List.set_cons_zero]
          refine wpS_setI (i := 4) (z := m) (L2 := [_, _, _]) rfl (by rfl) rfl rfl rfl HM30.out 2 rfl rfl (by rw [List.length_set]; omega) covS_nil rfl ?_
          rintro W32 hm31 -
          rw [List.set_set] at hm31
          have HM33 := Lib.hid hm31
          clear hm31
          refine wpS_nil ?_
          refine then_normal ?_
          refine wp_region_N [(0, 1), (1, 1), (2, 1), (3, 1), (4, 1), (5, 1), (6, 3)] (by kernel_rfl) ?_
          refine wpS_this [0, 1] rfl (by kernel_rfl) (by simp only [pickL, nthL, List.cons_append, List.nil_append]; rfl) ?_
          repeat (go_big_quiet_step (fail))
          refine wpQuiet_nil ?_
          refine wpS_addrI (i := 2) (d := some 60) (b := qb) (n := M.length) (j := i) rfl (by rfl) rfl rfl rfl (by omega) rfl ?_
          simp only [Act.put, List.setIfInBounds_toArray, List.set_cons_succ, List.set_cons_zero]
          refine wpS_load1 (i := 3) (d := some 61) (u := .int .i64 lv) rfl (by rfl) rfl rfl ((HM33.out.cellL 3 rfl i).trans (by rw [List.getElem?_map, hlvq.out]; rfl)) Try.underlying3 rfl rfl ?_
          simp only [Act.put, List.setIfInBounds_toArray, List.set_cons_succ, List.set_cons_zero]
          refine wpS_this [4] rfl (by kernel_rfl) (by simp only [pickL, nthL, List.cons_append, List.nil_append]; rfl) ?_
          repeat (go_big_quiet_step (fail))
          refine wpQuiet_nil ?_
          refine wpS_addrI (i := 5) (d := some 63) (b := qb) (n := M.length) (j := i) rfl (by rfl) rfl rfl rfl (by omega) rfl ?_
          simp only [Act.put, List.setIfInBounds_toArray, List.set_cons_succ, List.set_cons_zero]
          refine wpS_setI (i := 6) (z := (lv - 1)) (L2 := [_, _, _]) rfl (by rfl) rfl rfl rfl HM33.out 3 rfl rfl (by rw [List.length_map]; omega) covS_nil rfl ?_
          rintro W35 hm34 -
          have HM36 := Lib.hid hm34
          clear hm34
          refine wpS_nil ?_
          refine block_normal ?_
          refine then_normal ?_
          refine wp_region_N [(0, 1), (1, 1)] (by kernel_rfl) ?_
          refine wpS_this [0, 1] rfl (by kernel_rfl) (by simp only [pickL, nthL, List.cons_append, List.nil_append]; rfl) ?_
          repeat (go_big_quiet_step (fail))
          refine wpQuiet_nil ?_
          refine wpS_nil ?_
          refine then_normal ?_
          refine ⟨by kernel_rfl, ?_⟩
          refine ⟨M.length - (i + 1), by omega, i + 1, rfl, rfl, hi1, ?_⟩
          have hkk := keep_hit hnd.out (L := L1) hm hp.out
          rw [ha.out, hkk.1, hkk.2, keepL_at hnd.out hm, hlv.out, ← hL21.out]
          exact (Mem.only (M := [_, _, _, _]) HM36.out [2, 2, 1, 0] rfl)
        · have hL21' : L2 = L1 := by rw [← hL2.out, ha]; exact keepL_at hnd.out hm
          obtain ⟨lv, hlv'⟩ : ∃ z : Int, L1 m = z := ⟨_, rfl⟩
          have g1 : (atL now k == m) = true := beq_iff_eq.2 ha
          have g2 : decide ((0 : Int) < lv) = false := decide_eq_false (by rw [← hlv']; exact hp)
          have hlvq : (M.map L2)[i]? = some lv := by rw [List.getElem?_map, hm, hL21', ← hlv']; rfl
          have hlv2 : lv ≤ 17 := by rw [← hlv']; exact hLb.out m (List.mem_of_getElem? hm)
          have hlvq := Lib.hid hlvq
          have hp := Lib.hid hp
          have ha := Lib.hid ha
          have hlv := Lib.hid hlv'
          clear hlv'
          have hL21 := Lib.hid hL21'
          clear hL21'
          refine wp_region_N [(0, 1), (1, 1), (2, 3), (3, 1), (4, 1), (5, 1), (6, 1), (7, 1), (8, 1), (9, 1), (10, 1), (11, 1)] (by kernel_rfl) ?_
          refine wpS_this [0, 1] rfl (by kernel_rfl) (by simp only [pickL, nthL, List.cons_append, List.nil_append]; rfl) ?_
          repeat (go_big_quiet_step (fail))
          refine wpQuiet_nil ?_
          refine wpS_does2 (i := 2) (d := some 44) (rem := [_, _, _]) (out := [_, _, _, _]) rfl (by rfl) rfl Try.call25 (rat_d R vn now k hN) rfl rfl HM23.out [0] rfl covS_nil rfl rfl ?_
          rintro W38 hm37 -
          have HM39 := Lib.hid hm37
          clear hm37
          simp only [Act.put, List.setIfInBounds_toArray, List.set_cons_succ, List.set_cons_zero]
          refine wpS_this [3, 4, 5, 6, 7] rfl (by kernel_rfl) (by simp only [pickL, nthL, List.cons_append, List.nil_append]; rfl) ?_
          repeat (go_big_quiet_step (fail))
          refine wpQuiet_nil ?_
          refine wpS_addrI (i := 8) (d := some 50) (b := qb) (n := M.length) (j := i) rfl (by rfl) rfl rfl rfl (by omega) rfl ?_
          simp only [Act.put, List.setIfInBounds_toArray, List.set_cons_succ, List.set_cons_zero]
          refine wpS_load1 (i := 9) (d := some 51) (u := .int .i64 lv) rfl (by rfl) rfl rfl ((HM39.out.cellL 3 rfl i).trans (by rw [List.getElem?_map, hlvq.out]; rfl)) Try.underlying3 rfl rfl ?_
          simp only [Act.put, List.setIfInBounds_toArray, List.set_cons_succ, List.set_cons_zero]
          refine wpS_this [10, 11] rfl (by kernel_rfl) (by simp only [pickL, nthL, List.cons_append, List.nil_append]; rfl) ?_
          repeat (go_big_quiet_step (fail))
          refine wpQuiet_nil ?_
          refine wpS_nil ?_
          refine then_normal ?_
          refine wp_cond_false rfl ?_
          refine wp_skip ?_
          refine block_normal ?_
          refine then_normal ?_
          refine wp_region_N [(0, 1), (1, 1)] (by kernel_rfl) ?_
          refine wpS_this [0, 1] rfl (by kernel_rfl) (by simp only [pickL, nthL, List.cons_append, List.nil_append]; rfl) ?_
          repeat (go_big_quiet_step (fail))
          refine wpQuiet_nil ?_
          refine wpS_nil ?_
          refine then_normal ?_
          refine ⟨by kernel_rfl, ?_⟩
          refine ⟨M.length - (i + 1), by omega, i + 1, rfl, rfl, hi1, ?_⟩
          have hkk := keep_miss (L := L1) (a := atL now k) hm (.inr (by rw [ha.out]; exact hp.out))
          rw [hkk.1, hkk.2, hkv.out, hL2.out]
          exact (Mem.only (M := [_, _, _, _]) HM39.out [0, 0, 0, 0] rfl)
        · have g1 : (atL now k == m) = false := beq_eq_false_iff_ne.2 ha
          have ha := Lib.hid ha
          refine wp_region_N [(0, 1), (1, 1), (2, 3), (3, 1), (4, 1), (5, 1), (6, 1), (7, 1), (8, 1), (9, 1), (10, 1), (11, 1)] (by kernel_rfl) ?_
          refine wpS_this [0, 1] rfl (by kernel_rfl) (by simp only [pickL, nthL, List.cons_append, List.nil_append]; rfl) ?_
          repeat (go_big_quiet_step (fail))
          refine wpQuiet_nil ?_
          refine wpS_does2 (i := 2) (d := some 44) (rem := [_, _, _]) (out := [_, _, _, _]) rfl (by rfl) rfl Try.call25 (rat_d R vn now k hN) rfl rfl HM23.out [0] rfl covS_nil rfl rfl ?_
          rintro W41 hm40 -
          have HM42 := Lib.hid hm40
          clear hm40
          simp only [Act.put, List.setIfInBounds_toArray, List.set_cons_succ, List.set_cons_zero]
          refine wpS_this [3, 4, 5, 6, 7] rfl (by kernel_rfl) (by simp only [pickL, nthL, List.cons_append, List.nil_append]; rfl) ?_
          repeat (go_big_quiet_step (fail))
          refine wpQuiet_nil ?_
          refine wpS_skip (i := 8) (d := some 50) rfl (by rfl) rfl ?_
          simp only [Act.put, List.setIfInBounds_toArray, List.set_cons_succ, List.set_cons_zero]
          refine wpS_skip (i := 9) (d := some 51) rfl (by rfl) rfl ?_
          simp only [Act.put, List.setIfInBounds_toArray, List.set_cons_succ, List.set_cons_zero]
          refine wpS_this [10, 11] rfl (by kernel_rfl) (by simp only [pickL, nthL, List.cons_append, List.nil_append]; rfl) ?_
          repeat (go_big_quiet_step (fail))
          refine wpQuiet_nil ?_
          refine wpS_nil ?_
          refine then_normal ?_
          refine wp_cond_false rfl ?_
          refine wp_skip ?_
          refine block_normal ?_
          refine then_normal ?_
          refine wp_region_N [(0, 1), (1, 1)] (by kernel_rfl) ?_
          refine wpS_this [0, 1] rfl (by kernel_rfl) (by simp only [pickL, nthL, List.cons_append, List.nil_append]; rfl) ?_
          repeat (go_big_quiet_step (fail))
          refine wpQuiet_nil ?_
          refine wpS_nil ?_
          refine then_normal ?_
          refine ⟨by kernel_rfl, ?_⟩
          refine ⟨M.length - (i + 1), by omega, i + 1, rfl, rfl, hi1, ?_⟩
          have hkk := keep_miss (L := L1) (a := atL now k) hm (.inl ha.out)
          rw [hkk.1, hkk.2, hkv.out, hL2.out]
          exact (Mem.only (M := [_, _, _, _]) HM42.out [0, 0, 0, 0] rfl)
      · have hgeA : Hid (M.length ≤ i) := Lib.hid (by have : ¬ (i : Int) < (M.length : Int) := (by simpa using h24); omega)
        clear h24
        refine wp_exit ?_
        refine then_exit (then_exit (block_exit ?_))
        refine block_normal ?_
        refine then_normal ?_
        refine wp_region_N [(0, 1), (1, 1)] (by kernel_rfl) ?_
        refine wpS_this [0, 1] rfl (by kernel_rfl) (by simp only [pickL, nthL, List.cons_append, List.nil_append]; rfl) ?_
        repeat (go_big_quiet_step (fail))
        refine wpQuiet_nil ?_
        refine wpS_nil ?_
        refine then_normal ?_
        refine ⟨by kernel_rfl, ?_⟩
        have him : i = M.length := by have := hgeA.out; omega
        subst him
        refine ⟨16 - (k + 1), by omega, k + 1, rfl, rfl, hk1, ?_⟩
        obtain ⟨h1, h2⟩ := oA_step now M (quotaOf now M) (show k < 16 by omega)
        rw [h1, h2, hO1.out, hL1.out, hkv.out, hL2.out]
        exact (Mem.only (M := [_, _, _, _]) HM23.out [0, 0, 0, 0] rfl)
    · have hk16 : k = 16 := by have : ¬ (k : Int) < 16 := (by simpa using h19); omega
      clear h19
      subst hk16
      refine wp_exit ?_
      refine then_exit (then_exit (block_exit ?_))
      refine then_normal ?_
      refine wp_seq ?_
      refine wp_seq ?_
      refine wp_region_N [(0, 1), (1, 1), (2, 1)] (by kernel_rfl) ?_
      refine wpS_this [0, 1, 2] rfl (by kernel_rfl) (by simp only [pickL, nthL, List.cons_append, List.nil_append]; rfl) ?_
      repeat (go_big_quiet_step (fail))
      refine wpQuiet_nil ?_
      refine wpS_nil ?_
      refine then_normal ?_
      refine wp_block ?_
      refine wp_loop_F [11, 12, 13, 14, 15, 16, 17, 68, 69, 70, 71, 72, 73, 74, 75, 76, 77, 78, 79, 80, 81, 82, 83, 84, 85, 86, 87, 88, 89, 90, 91, 92, 93, 94, 95, 96, 97, 98, 99, 100, 101, 102, 103, 104, 105, 106, 107, 108, 109, 110, 111, 112, 113, 114, 115, 116, 117, 118, 119, 120, 121, 122, 123, 124, 125, 126, 127, 128, 129, 130, 131, 132, 133, 134, 135, 136, 137, 138, 139, 140, 141, 142, 143, 144, 145, 146, 147, 148, 149, 150, 151] (fun n us W' => ∃ k : Nat, n = 16 - k ∧ us 68 = .int .i64 (k : Int) ∧ k ≤ 16 ∧ Mem [R, rowT elemI (.slice mp M.length mc) M, intsT ob (gB now M k).1, intsT qb (M.map (gB now M k).2)] H w W') (n0 := 16) ?_ ?_
      · refine ⟨0, rfl, rfl, Nat.zero_le _, ?_⟩
        rw [show (gB now M 0).1 = oA now M (quotaOf now M) 16 from (oA_end _ _ _).symm, show (gB now M 0).2 = (keepK now M (quotaOf now M) 16).2 from rfl, hO1.out, hL1.out]
        exact (Mem.only (M := [_, _, _, _]) HM18.out [0, 0, 0, 0] rfl)
      rintro n us W' ⟨k, rfl, e68, hk, hmm⟩
      simp only [putAll, List.map_cons, List.map_nil, Act.put, List.setIfInBounds_toArray, List.set_cons_succ, List.set_cons_zero]
      rw [e68]
      clear e68
      have hG := gB_gives (now := now) hok.out hne.out hk
      obtain ⟨O2, hO2'⟩ : ∃ z : List Int, (gB now M k).1 = z := ⟨_, rfl⟩
      rw [hO2'] at hmm hG
      obtain ⟨L3, hL3'⟩ : ∃ z : Int → Int, (gB now M k).2 = z := ⟨_, rfl⟩
      rw [hL3'] at hmm hG
      have hO2n : O2.length = 16 := hG.len
      have hG := Lib.hid hG
      have hO2 := Lib.hid hO2'
      clear hO2'
      have hL3 := Lib.hid hL3'
      clear hL3'
      have HM43 := Lib.hid hmm
      clear hmm
      refine wp_seq ?_
      refine wp_region_N [(0, 1)] (by kernel_rfl) ?_
      refine wpS_this [0] rfl (by kernel_rfl) (by simp only [pickL, nthL, List.cons_append, List.nil_append]; rfl) ?_
      repeat (go_big_quiet_step (fail))
      refine wpQuiet_nil ?_
      refine wpS_nil ?_
      refine then_normal ?_
      refine wp_seq ?_
      refine wp_cond_split rfl (fun h44 => ?_) (fun h44 => ?_)
      · have hk1 : k + 1 ≤ 16 := by have : (k : Int) < ((16 : Nat) : Int) := (by simpa using h44); omega
        clear h44
        obtain ⟨x, hx⟩ : ∃ y, O2[k]? = some y := ⟨_, List.getElem?_eq_getElem (by omega)⟩
        refine wp_skip ?_
        refine then_normal ?_
        refine wp_seq ?_
        refine wp_block ?_
        refine wp_seq ?_
        refine wp_region_N [(0, 1), (1, 1)] (by kernel_rfl) ?_
        refine wpS_this [0, 1] rfl (by kernel_rfl) (by simp only [pickL, nthL, List.cons_append, List.nil_append]; rfl) ?_
        repeat (go_big_quiet_step (fail))
        refine wpQuiet_nil ?_
        refine wpS_nil ?_
        refine then_normal ?_
        refine wp_seq ?_
        refine wp_seq ?_
        rcases hG.out.each k x hx with hx1 | hx1
        · subst hx1
          obtain ⟨k1, hj1'⟩ : ∃ j, (k + 15) % 16 = j := ⟨_, rfl⟩
          have k1l : k1 < 16 := by omega
          have hj1 := Lib.hid hj1'
          obtain ⟨av, hav⟩ : ∃ y, O2[k1]? = some y := ⟨_, List.getElem?_eq_getElem (by omega)⟩
          obtain ⟨k2, hj2'⟩ : ∃ j, (k + 1) % 16 = j := ⟨_, rfl⟩
          have k2l : k2 < 16 := by omega
          have hj2 := Lib.hid hj2'
          obtain ⟨bv, hbv⟩ : ∃ y, O2[k2]? = some y := ⟨_, List.getElem?_eq_getElem (by omega)⟩
          refine wp_region_N [(0, 1), (1, 1), (2, 1), (3, 1), (4, 1)] (by kernel_rfl) ?_
          refine wpS_this [0, 1] rfl (by kernel_rfl) (by simp only [pickL, nthL, List.cons_append, List.nil_append]; rfl) ?_
          repeat (go_big_quiet_step (fail))
          refine wpQuiet_nil ?_
          refine wpS_addrI (i := 2) (d := some 73) (b := ob) (n := 16) (j := k) rfl (by rfl) rfl rfl rfl (by omega) rfl ?_
          simp only [Act.put, List.setIfInBounds_toArray, List.set_cons_succ, List.set_cons_zero]
          refine wpS_load1 (i := 3) (d := some 74) (u := .int .i64 (-1)) rfl (by rfl) rfl rfl ((HM43.out.cellL 2 rfl k).trans (by rw [List.getElem?_map, hx]; rfl)) Try.underlying3 rfl rfl ?_
          simp only [Act.put, List.setIfInBounds_toArray, List.set_cons_succ, List.set_cons_zero]
          refine wpS_this [4] rfl (by kernel_rfl) (by simp only [pickL, nthL, List.cons_append, List.nil_append]; rfl) ?_
          repeat (go_big_quiet_step (fail))
          refine wpQuiet_nil ?_
          refine wpS_nil ?_
          refine then_normal ?_
          refine wp_cond_false rfl ?_
          refine wp_skip ?_
          refine then_normal ?_
          refine wp_seq ?_
          refine wp_region_M (fun k => k ∈ ([] : List Nat)) [(0, 1), (1, 1), (2, 1), (3, 1), (4, 1), (5, 1), (6, 1), (7, 1), (8, 1), (9, 1), (10, 1), (11, 1), (12, 1), (13, 1), (14, 1)] (by kernel_rfl) (by kernel_rfl) HM43.out ?_
          intro W45 hm46
          have HM47 := Lib.hid hm46
          clear hm46
          refine wpS_this [0, 1, 2, 3, 4] rfl (by kernel_rfl) (by simp only [pickL, nthL, List.cons_append, List.nil_append]; rfl) ?_
          repeat (go_big_quiet_step (fail))
          refine wpQuiet_nil ?_
          rw [show ((k : Int) + 16 - 1) % 16 = ((k1 : Nat) : Int) from by omega]
          refine wpS_addrI (i := 5) (d := some 81) (b := ob) (n := 16) (j := k1) rfl (by rfl) rfl rfl rfl (by omega) rfl ?_
          simp only [Act.put, List.setIfInBounds_toArray, List.set_cons_succ, List.set_cons_zero]
          refine wpS_load1 (i := 6) (d := some 82) (u := .int .i64 av) rfl (by rfl) rfl rfl ((HM47.out.cellL 2 rfl k1).trans (by rw [List.getElem?_map, hav]; rfl)) Try.underlying3 rfl rfl ?_
          simp only [Act.put, List.setIfInBounds_toArray, List.set_cons_succ, List.set_cons_zero]
          refine wpS_this [7, 8, 9, 10] rfl (by kernel_rfl) (by simp only [pickL, nthL, List.cons_append, List.nil_append]; rfl) ?_
          repeat (go_big_quiet_step (fail))
          refine wpQuiet_nil ?_
          rw [show ((k : Int) + 1) % 16 = ((k2 : Nat) : Int) from by omega]
          refine wpS_addrI (i := 11) (d := some 87) (b := ob) (n := 16) (j := k2) rfl (by rfl) rfl rfl rfl (by omega) rfl ?_
          simp only [Act.put, List.setIfInBounds_toArray, List.set_cons_succ, List.set_cons_zero]
          refine wpS_load1 (i := 12) (d := some 88) (u := .int .i64 bv) rfl (by rfl) rfl rfl ((HM47.out.cellL 2 rfl k2).trans (by rw [List.getElem?_map, hbv]; rfl)) Try.underlying3 rfl rfl ?_
          simp only [Act.put, List.setIfInBounds_toArray, List.set_cons_succ, List.set_cons_zero]
          refine wpS_this [13, 14] rfl (by kernel_rfl) (by simp only [pickL, nthL, List.cons_append, List.nil_append]; rfl) ?_
          repeat (go_big_quiet_step (fail))
          refine wpQuiet_nil ?_
          refine wpS_nil ?_
          refine then_normal ?_
          refine wp_seq ?_
          refine wp_region_N [(0, 1)] (by kernel_rfl) ?_
          refine wpS_this [0] rfl (by kernel_rfl) (by simp only [pickL, nthL, List.cons_append, List.nil_append]; rfl) ?_
          repeat (go_big_quiet_step (fail))
          refine wpQuiet_nil ?_
          refine wpS_nil ?_
          refine then_normal ?_
          refine wp_seq ?_
          refine wp_seq ?_
          refine wp_region_N [(0, 1)] (by kernel_rfl) ?_
          refine wpS_this [0] rfl (by kernel_rfl) (by simp only [pickL, nthL, List.cons_append, List.nil_append]; rfl) ?_
          repeat (go_big_quiet_step (fail))
          refine wpQuiet_nil ?_
          refine wpS_nil ?_
          refine then_normal ?_
          refine wp_block ?_
          refine wp_loop_rounds 3 ?_
          refine rounds_step ?_
          refine wp_seq ?_
          refine wp_region_N [(0, 1)] (by kernel_rfl) ?_
          refine wpS_this [0] rfl (by kernel_rfl) (by simp only [pickL, nthL, List.cons_append, List.nil_append]; rfl) ?_
          repeat (go_big_quiet_step (fail))
          refine wpQuiet_nil ?_
          refine wpS_nil ?_
          refine then_normal ?_
          refine wp_seq ?_
          refine wp_cond_true rfl ?_
          refine wp_skip ?_
          refine then_normal ?_
          refine wp_seq ?_
          refine wp_block ?_
          refine wp_seq ?_
          refine wp_region_N [(0, 1), (1, 1)] (by kernel_rfl) ?_
          refine wpS_this [0, 1] rfl (by kernel_rfl) (by simp only [pickL, nthL, List.cons_append, List.nil_append]; rfl) ?_
          repeat (go_big_quiet_step (fail))
          refine wpQuiet_nil ?_
          refine wpS_nil ?_
          refine then_normal ?_
          refine wp_seq ?_
          refine wp_seq ?_
          refine wp_region_N [(0, 1), (1, 1), (2, 1)] (by kernel_rfl) ?_
          refine wpS_this [0, 1, 2] rfl (by kernel_rfl) (by simp only [pickL, nthL, List.cons_append, List.nil_append]; rfl) ?_
          repeat (go_big_quiet_step (fail))
          refine wpQuiet_nil ?_
          refine wpS_nil ?_
          refine then_normal ?_
          refine wp_block ?_
          refine wp_loop_F [14, 16, 17, 94, 95, 96, 97, 98, 99, 100, 101, 102, 103, 104, 105, 106, 107, 108, 109, 110, 111, 112, 113, 114, 115, 116, 117, 118, 119, 120, 121, 122, 123, 124, 125, 126, 127, 128, 129, 130, 131, 132, 133, 134] (fun n xs W' => ∃ i : Nat, n = M.length - i ∧ xs 94 = .int .i64 (i : Int) ∧ xs 14 = .int .i64 (bJ M L3 (fun n => n != av && n != bv) i) ∧ i ≤ M.length ∧ Mem [R, rowT elemI (.slice mp M.length mc) M, intsT ob O2, intsT qb (M.map L3)] H w W') (n0 := M.length) ?_ ?_
          · exact ⟨0, rfl, rfl, rfl, Nat.zero_le _, (Mem.only (M := [_, _, _, _]) HM47.out [0, 0, 0, 0] rfl)⟩
          rintro n xs W' ⟨i, rfl, e94, e14, hi, hmm2⟩
          simp only [putAll, List.map_cons, List.map_nil, Act.put, List.setIfInBounds_toArray, List.set_cons_succ, List.set_cons_zero]
          rw [e94, e14]
          clear e94 e14
          have hbr := bJ_range M L3 (fun n => n != av && n != bv) i
          obtain ⟨bz, hbz'⟩ : ∃ z : Int, bJ M L3 (fun n => n != av && n != bv) i = z := ⟨_, rfl⟩
          rw [hbz'] at hbr ⊢
          obtain ⟨hb1, hb2⟩ := hbr
          have hbz := Lib.hid hbz'
          clear hbz'
          have HM48 := Lib.hid hmm2
          clear hmm2
          refine wp_seq ?_
          refine wp_region_N [(0, 1)] (by kernel_rfl) ?_
          refine wpS_this [0] rfl (by kernel_rfl) (by simp only [pickL, nthL, List.cons_append, List.nil_append]; rfl) ?_
          repeat (go_big_quiet_step (fail))
          refine wpQuiet_nil ?_
          refine wpS_nil ?_
          refine then_normal ?_
          refine wp_seq ?_
          refine wp_cond_split rfl (fun h49 => ?_) (fun h49 => ?_)
          · have hi1 : i + 1 ≤ M.length := by have : (i : Int) < ((M.length : Nat) : Int) := (by simpa using h49); omega
            clear h49
            obtain ⟨m, hm⟩ : ∃ y, M[i]? = some y := ⟨_, List.getElem?_eq_getElem hi1⟩
            refine wp_skip ?_
            refine then_normal ?_
            refine wp_seq ?_
            refine wp_block ?_
            refine wp_seq ?_
            refine wp_region_N [(0, 1), (1, 1), (2, 1), (3, 1), (4, 1)] (by kernel_rfl) ?_
            refine wpS_this [0] rfl (by kernel_rfl) (by simp only [pickL, nthL, List.cons_append, List.nil_append]; rfl) ?_
            repeat (go_big_quiet_step (fail))
            refine wpQuiet_nil ?_
            refine wpS_index (E := elemI) (i := 1) (d := some 97) rfl (by rfl) rfl rfl rfl (rowAt_src (HM48.out.src 1 rfl rowT_reads)) (hm) rfl ?_
            intro eb50 eo51 hc52
            simp only [Act.put, List.setIfInBounds_toArray, List.set_cons_succ, List.set_cons_zero]
            refine wpS_load1 (i := 2) (d := some 98) (u := .int .i64 m) rfl (by rfl) rfl rfl (hc52 0 _ rfl) Try.underlying3 rfl rfl ?_
            simp only [Act.put, List.setIfInBounds_toArray, List.set_cons_succ, List.set_cons_zero]
            refine wpS_this [3, 4] rfl (by kernel_rfl) (by simp only [pickL, nthL, List.cons_append, List.nil_append]; rfl) ?_
            repeat (go_big_quiet_step (fail))
            refine wpQuiet_nil ?_
            refine wpS_nil ?_
            refine then_normal ?_
            refine wp_seq ?_
            rcases ways6 (0 < L3 m) (m = av) (m = bv) (bz < 0) (L3 (M.getD bz.toNat 0) < L3 m) with hp | ⟨hp, hf1'⟩ | ⟨hp, hf1', hf2'⟩ | ⟨hp, hf1', hf2', hb0 | ⟨hb0, hlt⟩ | ⟨hb0, hlt⟩⟩
            · obtain ⟨lm, hlm'⟩ : ∃ z : Int, L3 m = z := ⟨_, rfl⟩
              have hlmq : (M.map L3)[i]? = some lm := by rw [List.getElem?_map, hm, ← hlm']; rfl
              have hlmq := Lib.hid hlmq
              have g1 : decide ((0 : Int) < lm) = false := decide_eq_false (by rw [← hlm']; exact hp)
              have hlm := Lib.hid hlm'
              clear hlm'
              have hp := Lib.hid hp
              refine wp_region_M (fun k => k ∈ ([] : List Nat)) [(0, 1), (1, 1), (2, 1), (3, 1), (4, 1), (5, 1), (6, 1), (7, 1), (8, 1), (9, 1), (10, 1), (11, 1), (12, 1), (13, 1), (14, 1), (15, 1), (16, 1), (17, 1), (18, 1), (19, 1), (20, 1), (21, 1), (22, 1), (23, 1), (24, 1), (25, 1), (26, 1), (27, 1), (28, 1), (29, 1), (30, 1), (31, 1), (32, 1), (33, 1)] (by kernel_rfl) (by kernel_rfl) HM48.out ?_
              intro W53 hm54
              have HM55 := Lib.hid hm54
              clear hm54
              refine wpS_this [0, 1] rfl (by kernel_rfl) (by simp only [pickL, nthL, List.cons_append, List.nil_append]; rfl) ?_
              repeat (go_big_quiet_step (fail))
              refine wpQuiet_nil ?_
              refine wpS_addrI (i := 2) (d := some 101) (b := qb) (n := M.length) (j := i) rfl (by rfl) rfl rfl rfl (by omega) rfl ?_
              simp only [Act.put, List.setIfInBounds_toArray, List.set_cons_succ, List.set_cons_zero]
              refine wpS_load1 (i := 3) (d := some 102) (u := .int .i64 lm) rfl (by rfl) rfl rfl ((HM55.out.cellL 3 rfl i).trans (by rw [List.getElem?_map, hlmq.out]; rfl)) Try.underlying3 rfl rfl ?_
              simp only [Act.put, List.setIfInBounds_toArray, List.set_cons_succ, List.set_cons_zero]
              refine wpS_this [4, 5, 6, 7, 8, 9, 10, 11, 12, 13, 14, 15, 16, 17, 18, 19, 20, 21, 22, 23, 24] rfl (by kernel_rfl) (by simp only [pickL, nthL, List.cons_append, List.nil_append]; rfl) ?_
              repeat (go_big_quiet_step (fail))
              refine wpQuiet_nil ?_
              refine wpS_skip (i := 25) (d := some 124) rfl (by rfl) rfl ?_
              simp only [Act.put, List.setIfInBounds_toArray, List.set_cons_succ, List.set_cons_zero]
              refine wpS_skip (i := 26) (d := some 125) rfl (by rfl) rfl ?_
              simp only [Act.put, List.setIfInBounds_toArray, List.set_cons_succ, List.set_cons_zero]
              refine wpS_this [27, 28] rfl (by kernel_rfl) (by simp only [pickL, nthL, List.cons_append, List.nil_append]; rfl) ?_
              repeat (go_big_quiet_step (fail))
              refine wpQuiet_nil ?_
              refine wpS_skip (i := 29) (d := some 128) rfl (by rfl) rfl ?_
              simp only [Act.put, List.setIfInBounds_toArray, List.set_cons_succ, List.set_cons_zero]
              refine wpS_skip (i := 30) (d := some 129) rfl (by rfl) rfl ?_
              simp only [Act.put, List.setIfInBounds_toArray, List.set_cons_succ, List.set_cons_zero]
              refine wpS_this [31, 32, 33] rfl (by kernel_rfl) (by simp only [pickL, nthL, List.cons_append, List.nil_append]; rfl) ?_
              repeat (go_big_quiet_step (fail))
              refine wpQuiet_nil ?_
              refine wpS_nil ?_
              refine then_normal ?_
              refine wp_cond_false rfl ?_
              refine wp_skip ?_
              refine block_normal ?_
              refine then_normal ?_
              refine wp_region_N [(0, 1), (1, 1)] (by kernel_rfl) ?_
              refine wpS_this [0, 1] rfl (by kernel_rfl) (by simp only [pickL, nthL, List.cons_append, List.nil_append]; rfl) ?_
              repeat (go_big_quiet_step (fail))
              refine wpQuiet_nil ?_
              refine wpS_nil ?_
              refine then_normal ?_
              refine ⟨by kernel_rfl, ?_⟩
              refine ⟨M.length - (i + 1), by omega, i + 1, rfl, rfl, ?_, hi1, (Mem.only (M := [_, _, _, _]) HM55.out [0, 0, 0, 0] rfl)⟩
              rw [bJ_miss (f := (fun n => n != av && n != bv)) hm (.inl hp.out), hbz.out]
              rfl
            · obtain ⟨lm, hlm'⟩ : ∃ z : Int, L3 m = z := ⟨_, rfl⟩
              have hlmq : (M.map L3)[i]? = some lm := by rw [List.getElem?_map, hm, ← hlm']; rfl
              have hlmq := Lib.hid hlmq
              have g1 : decide ((0 : Int) < lm) = true := decide_eq_true (by rw [← hlm']; exact hp)
              have g2 : (m != av) = false := by simp [hf1']
              have hlm := Lib.hid hlm'
              clear hlm'
              have hp := Lib.hid hp
              have hf1 := Lib.hid hf1'
              clear hf1'
              refine wp_region_M (fun k => k ∈ ([] : List Nat)) [(0, 1), (1, 1), (2, 1), (3, 1), (4, 1), (5, 1), (6, 1), (7, 1), (8, 1), (9, 1), (10, 1), (11, 1), (12, 1), (13, 1), (14, 1), (15, 1), (16, 1), (17, 1), (18, 1), (19, 1), (20, 1), (21, 1), (22, 1), (23, 1), (24, 1), (25, 1), (26, 1), (27, 1), (28, 1), (29, 1), (30, 1), (31, 1), (32, 1), (33, 1)] (by kernel_rfl) (by kernel_rfl) HM48.out ?_
              intro W56 hm57
              have HM58 := Lib.hid hm57
              clear hm57
              refine wpS_this [0, 1] rfl (by kernel_rfl) (by simp only [pickL, nthL, List.cons_append, List.nil_append]; rfl) ?_
              repeat (go_big_quiet_step (fail))
              refine wpQuiet_nil ?_
              refine wpS_addrI (i := 2) (d := some 101) (b := qb) (n := M.length) (j := i) rfl (by rfl) rfl rfl rfl (by omega) rfl ?_
              simp only [Act.put, List.setIfInBounds_toArray, List.set_cons_succ, List.set_cons_zero]
              refine wpS_load1 (i := 3) (d := some 102) (u := .int .i64 lm) rfl (by rfl) rfl rfl ((HM58.out.cellL 3 rfl i).trans (by rw [List.getElem?_map, hlmq.out]; rfl)) Try.underlying3 rfl rfl ?_
              simp only [Act.put, List.setIfInBounds_toArray, List.set_cons_succ, List.set_cons_zero]
              refine wpS_this [4, 5, 6, 7, 8, 9, 10, 11, 12, 13, 14, 15, 16, 17, 18, 19, 20, 21, 22, 23, 24] rfl (by kernel_rfl) (by simp only [pickL, nthL, List.cons_append, List.nil_append]; rfl) ?_
              repeat (go_big_quiet_step (fail))
              refine wpQuiet_nil ?_
              refine wpS_skip (i := 25) (d := some 124) rfl (by rfl) rfl ?_
              simp only [Act.put, List.setIfInBounds_toArray, List.set_cons_succ, List.set_cons_zero]
              refine wpS_skip (i := 26) (d := some 125) rfl (by rfl) rfl ?_
              simp only [Act.put, List.setIfInBounds_toArray, List.set_cons_succ, List.set_cons_zero]
              refine wpS_this [27, 28] rfl (by kernel_rfl) (by simp only [pickL, nthL, List.cons_append, List.nil_append]; rfl) ?_
              repeat (go_big_quiet_step (fail))
              refine wpQuiet_nil ?_
              refine wpS_skip (i := 29) (d := some 128) rfl (by rfl) rfl ?_
              simp only [Act.put, List.setIfInBounds_toArray, List.set_cons_succ, List.set_cons_zero]
              refine wpS_skip (i := 30) (d := some 129) rfl (by rfl) rfl ?_
              simp only [Act.put, List.setIfInBounds_toArray, List.set_cons_succ, List.set_cons_zero]
              refine wpS_this [31, 32, 33] rfl (by kernel_rfl) (by simp only [pickL, nthL, List.cons_append, List.nil_append]; rfl) ?_
              repeat (go_big_quiet_step (fail))
              refine wpQuiet_nil ?_
              refine wpS_nil ?_
              refine then_normal ?_
              refine wp_cond_false rfl ?_
              refine wp_skip ?_
              refine block_normal ?_
              refine then_normal ?_
              refine wp_region_N [(0, 1), (1, 1)] (by kernel_rfl) ?_
              refine wpS_this [0, 1] rfl (by kernel_rfl) (by simp only [pickL, nthL, List.cons_append, List.nil_append]; rfl) ?_
              repeat (go_big_quiet_step (fail))
              refine wpQuiet_nil ?_
              refine wpS_nil ?_
              refine then_normal ?_
              refine ⟨by kernel_rfl, ?_⟩
              refine ⟨M.length - (i + 1), by omega, i + 1, rfl, rfl, ?_, hi1, (Mem.only (M := [_, _, _, _]) HM58.out [0, 0, 0, 0] rfl)⟩
              rw [bJ_miss (f := (fun n => n != av && n != bv)) hm (.inr (.inl (by simp [hf1.out]))), hbz.out]
              rfl
            · obtain ⟨lm, hlm'⟩ : ∃ z : Int, L3 m = z := ⟨_, rfl⟩
              have hlmq : (M.map L3)[i]? = some lm := by rw [List.getElem?_map, hm, ← hlm']; rfl
              have hlmq := Lib.hid hlmq
              have g1 : decide ((0 : Int) < lm) = true := decide_eq_true (by rw [← hlm']; exact hp)
              have g2 : (m != av) = true := by simp [hf1']
              have g3 : (m != bv) = false := by simp [hf2']
              have hlm := Lib.hid hlm'
              clear hlm'
              have hp := Lib.hid hp
              have hf1 := Lib.hid hf1'
              clear hf1'
              have hf2 := Lib.hid hf2'
              clear hf2'
              refine wp_region_M (fun k => k ∈ ([] : List Nat)) [(0, 1), (1, 1), (2, 1), (3, 1), (4, 1), (5, 1), (6, 1), (7, 1), (8, 1), (9, 1), (10, 1), (11, 1), (12, 1), (13, 1), (14, 1), (15, 1), (16, 1), (17, 1), (18, 1), (19, 1), (20, 1), (21, 1), (22, 1), (23, 1), (24, 1), (25, 1), (26, 1), (27, 1), (28, 1), (29, 1), (30, 1), (31, 1), (32, 1), (33, 1)] (by kernel_rfl) (by kernel_rfl) HM48.out ?_
              intro W59 hm60
              have HM61 := Lib.hid hm60
              clear hm60
              refine wpS_this [0, 1] rfl (by kernel_rfl) (by simp only [pickL, nthL, List.cons_append, List.nil_append]; rfl) ?_
              repeat (go_big_quiet_step (fail))
              refine wpQuiet_nil ?_
              refine wpS_addrI (i := 2) (d := some 101) (b := qb) (n := M.length) (j := i) rfl (by rfl) rfl rfl rfl (by omega) rfl ?_
              simp only [Act.put, List.setIfInBounds_toArray, List.set_cons_succ, List.set_cons_zero]
              refine wpS_load1 (i := 3) (d := some 102) (u := .int .i64 lm) rfl (by rfl) rfl rfl ((HM61.out.cellL 3 rfl i).trans (by rw [List.getElem?_map, hlmq.out]; rfl)) Try.underlying3 rfl rfl ?_
              simp only [Act.put, List.setIfInBounds_toArray, List.set_cons_succ, List.set_cons_zero]
              refine wpS_this [4, 5, 6, 7, 8, 9, 10, 11, 12, 13, 14, 15, 16, 17, 18, 19, 20, 21, 22, 23, 24] rfl (by kernel_rfl) (by simp only [pickL, nthL, List.cons_append, List.nil_append]; rfl) ?_
              repeat (go_big_quiet_step (fail))
              refine wpQuiet_nil ?_
              refine wpS_skip (i := 25) (d := some 124) rfl (by rfl) rfl ?_
              simp only [Act.put, List.setIfInBounds_toArray, List.set_cons_succ, List.set_cons_zero]
              refine wpS_skip (i := 26) (d := some 125) rfl (by rfl) rfl ?_
              simp only [Act.put, List.setIfInBounds_toArray, List.set_cons_succ, List.set_cons_zero]
              refine wpS_this [27, 28] rfl (by kernel_rfl) (by simp only [pickL, nthL, List.cons_append, List.nil_append]; rfl) ?_
              repeat (go_big_quiet_step (fail))
              refine wpQuiet_nil ?_
              refine wpS_skip (i := 29) (d := some 128) rfl (by rfl) rfl ?_
              simp only [Act.put, List.setIfInBounds_toArray, List.set_cons_succ, List.set_cons_zero]
              refine wpS_skip (i := 30) (d := some 129) rfl (by rfl) rfl ?_
              simp only [Act.put, List.setIfInBounds_toArray, List.set_cons_succ, List.set_cons_zero]
              refine wpS_this [31, 32, 33] rfl (by kernel_rfl) (by simp only [pickL, nthL, List.cons_append, List.nil_append]; rfl) ?_
              repeat (go_big_quiet_step (fail))
              refine wpQuiet_nil ?_
              refine wpS_nil ?_
              refine then_normal ?_
              refine wp_cond_false rfl ?_
              refine wp_skip ?_
              refine block_normal ?_
              refine then_normal ?_
              refine wp_region_N [(0, 1), (1, 1)] (by kernel_rfl) ?_
              refine wpS_this [0, 1] rfl (by kernel_rfl) (by simp only [pickL, nthL, List.cons_append, List.nil_append]; rfl) ?_
              repeat (go_big_quiet_step (fail))
              refine wpQuiet_nil ?_
              refine wpS_nil ?_
              refine then_normal ?_
              refine ⟨by kernel_rfl, ?_⟩
              refine ⟨M.length - (i + 1), by omega, i + 1, rfl, rfl, ?_, hi1, (Mem.only (M := [_, _, _, _]) HM61.out [0, 0, 0, 0] rfl)⟩
              rw [bJ_miss (f := (fun n => n != av && n != bv)) hm (.inr (.inl (by simp [hf2.out]))), hbz.out]
              rfl
            · obtain ⟨lm, hlm'⟩ : ∃ z : Int, L3 m = z := ⟨_, rfl⟩
              have hlmq : (M.map L3)[i]? = some lm := by rw [List.getElem?_map, hm, ← hlm']; rfl
              have hlmq := Lib.hid hlmq
              have g1 : decide ((0 : Int) < lm) = true := decide_eq_true (by rw [← hlm']; exact hp)
              have g2 : (m != av) = true := by simp [hf1']
              have g3 : (m != bv) = true := by simp [hf2']
              have g4 : decide (bz < 0) = true := decide_eq_true hb0
              have hlm := Lib.hid hlm'
              clear hlm'
              have hp := Lib.hid hp
              have hf1 := Lib.hid hf1'
              clear hf1'
              have hf2 := Lib.hid hf2'
              clear hf2'
              have hb0 := Lib.hid hb0
              refine wp_region_M (fun k => k ∈ ([] : List Nat)) [(0, 1), (1, 1), (2, 1), (3, 1), (4, 1), (5, 1), (6, 1), (7, 1), (8, 1), (9, 1), (10, 1), (11, 1), (12, 1), (13, 1), (14, 1), (15, 1), (16, 1), (17, 1), (18, 1), (19, 1), (20, 1), (21, 1), (22, 1), (23, 1), (24, 1), (25, 1), (26, 1), (27, 1), (28, 1), (29, 1), (30, 1), (31, 1), (32, 1), (33, 1)] (by kernel_rfl) (by kernel_rfl) HM48.out ?_
              intro W62 hm63
              have HM64 := Lib.hid hm63
              clear hm63
              refine wpS_this [0, 1] rfl (by kernel_rfl) (by simp only [pickL, nthL, List.cons_append, List.nil_append]; rfl) ?_
              repeat (go_big_quiet_step (fail))
              refine wpQuiet_nil ?_
              refine wpS_addrI (i := 2) (d := some 101) (b := qb) (n := M.length) (j := i) rfl (by rfl) rfl rfl rfl (by omega) rfl ?_
              simp only [Act.put, List.setIfInBounds_toArray, List.set_cons_succ, List.set_cons_zero]
              refine wpS_load1 (i := 3) (d := some 102) (u := .int .i64 lm) rfl (by rfl) rfl rfl ((HM64.out.cellL 3 rfl i).trans (by rw [List.getElem?_map, hlmq.out]; rfl)) Try.underlying3 rfl rfl ?_
              simp only [Act.put, List.setIfInBounds_toArray, List.set_cons_succ, List.set_cons_zero]
              refine wpS_this [4, 5, 6, 7, 8, 9, 10, 11, 12, 13, 14, 15, 16, 17, 18, 19, 20, 21, 22, 23, 24] rfl (by kernel_rfl) (by simp only [pickL, nthL, List.cons_append, List.nil_append]; rfl) ?_
              repeat (go_big_quiet_step (fail))
              refine wpQuiet_nil ?_
              refine wpS_skip (i := 25) (d := some 124) rfl (by rfl) rfl ?_
              simp only [Act.put, List.setIfInBounds_toArray, List.set_cons_succ, List.set_cons_zero]
              refine wpS_skip (i := 26) (d := some 125) rfl (by rfl) rfl ?_
              simp only [Act.put, List.setIfInBounds_toArray, List.set_cons_succ, List.set_cons_zero]
              refine wpS_this [27, 28] rfl (by kernel_rfl) (by simp only [pickL, nthL, List.cons_append, List.nil_append]; rfl) ?_
              repeat (go_big_quiet_step (fail))
              refine wpQuiet_nil ?_
              refine wpS_skip (i := 29) (d := some 128) rfl (by rfl) rfl ?_
              simp only [Act.put, List.setIfInBounds_toArray, List.set_cons_succ, List.set_cons_zero]
              refine wpS_skip (i := 30) (d := some 129) rfl (by rfl) rfl ?_
              simp only [Act.put, List.setIfInBounds_toArray, List.set_cons_succ, List.set_cons_zero]
              refine wpS_this [31, 32, 33] rfl (by kernel_rfl) (by simp only [pickL, nthL, List.cons_append, List.nil_append]; rfl) ?_
              repeat (go_big_quiet_step (fail))
              refine wpQuiet_nil ?_
              refine wpS_nil ?_
              refine then_normal ?_
              refine wp_cond_true rfl ?_
              refine wp_region_N [(0, 1), (1, 1)] (by kernel_rfl) ?_
              refine wpS_this [0, 1] rfl (by kernel_rfl) (by simp only [pickL, nthL, List.cons_append, List.nil_append]; rfl) ?_
              repeat (go_big_quiet_step (fail))
              refine wpQuiet_nil ?_
              refine wpS_nil ?_
              refine block_normal ?_
              refine then_normal ?_
              refine wp_region_N [(0, 1), (1, 1)] (by kernel_rfl) ?_
              refine wpS_this [0, 1] rfl (by kernel_rfl) (by simp only [pickL, nthL, List.cons_append, List.nil_append]; rfl) ?_
              repeat (go_big_quiet_step (fail))
              refine wpQuiet_nil ?_
              refine wpS_nil ?_
              refine then_normal ?_
              refine ⟨by kernel_rfl, ?_⟩
              refine ⟨M.length - (i + 1), by omega, i + 1, rfl, rfl, ?_, hi1, (Mem.only (M := [_, _, _, _]) HM64.out [0, 0, 0, 0] rfl)⟩
              rw [bJ_hit (f := (fun n => n != av && n != bv)) hm hp.out (by simp [hf1.out, hf2.out]) (.inl (by rw [hbz.out]; exact hb0.out))]
              rfl
            · obtain ⟨lm, hlm'⟩ : ∃ z : Int, L3 m = z := ⟨_, rfl⟩
              have hlmq : (M.map L3)[i]? = some lm := by rw [List.getElem?_map, hm, ← hlm']; rfl
              have hlmq := Lib.hid hlmq
              have g1 : decide ((0 : Int) < lm) = true := decide_eq_true (by rw [← hlm']; exact hp)
              have g2 : (m != av) = true := by simp [hf1']
              have g3 : (m != bv) = true := by simp [hf2']
              have g4 : decide (bz < 0) = false := decide_eq_false hb0
              obtain ⟨j, rfl⟩ : ∃ j : Nat, bz = (j : Int) := ⟨bz.toNat, by omega⟩
              have hjM : j < M.length := by omega
              obtain ⟨mb, hmb⟩ : ∃ y, M[j]? = some y := ⟨_, List.getElem?_eq_getElem hjM⟩
              rw [Int.toNat_natCast, List.getD_eq_getElem?_getD, hmb] at hlt
              replace hlt : L3 mb < L3 m := hlt
              obtain ⟨lb, hlb'⟩ : ∃ z : Int, L3 mb = z := ⟨_, rfl⟩
              have hlbq : (M.map L3)[j]? = some lb := by rw [List.getElem?_map, hmb, ← hlb']; rfl
              have hlbq := Lib.hid hlbq
              have g5 : decide (lb < lm) = true := decide_eq_true (by rw [← hlb', ← hlm']; exact hlt)
              have hlt := Lib.hid hlt
              have hlb := Lib.hid hlb'
              clear hlb'
              have hlm := Lib.hid hlm'
              clear hlm'
              have hp := Lib.hid hp
              have hf1 := Lib.hid hf1'
              clear hf1'
              have hf2 := Lib.hid hf2'
              clear hf2'
              refine wp_region_M (fun k => k ∈ ([] : List Nat)) [(0, 1), (1, 1), (2, 1), (3, 1), (4, 1), (5, 1), (6, 1), (7, 1), (8, 1), (9, 1), (10, 1), (11, 1), (12, 1), (13, 1), (14, 1), (15, 1), (16, 1), (17, 1), (18, 1), (19, 1), (20, 1), (21, 1), (22, 1), (23, 1), (24, 1), (25, 1), (26, 1), (27, 1), (28, 1), (29, 1), (30, 1), (31, 1), (32, 1), (33, 1)] (by kernel_rfl) (by kernel_rfl) HM48.out ?_
              intro W65 hm66
              have HM67 := Lib.hid hm66
              clear hm66
              refine wpS_this [0, 1] rfl (by kernel_rfl) (by simp only [pickL, nthL, List.cons_append, List.nil_append]; rfl) ?_
              repeat (go_big_quiet_step (fail))
              refine wpQuiet_nil ?_
              refine wpS_addrI (i := 2) (d := some 101) (b := qb) (n := M.length) (j := i) rfl (by rfl) rfl rfl rfl (by omega) rfl ?_
              simp only [Act.put, List.setIfInBounds_toArray, List.set_cons_succ, List.set_cons_zero]
              refine wpS_load1 (i := 3) (d := some 102) (u := .int .i64 lm) rfl (by rfl) rfl rfl ((HM67.out.cellL 3 rfl i).trans (by rw [List.getElem?_map, hlmq.out]; rfl)) Try.underlying3 rfl rfl ?_
              simp only [Act.put, List.setIfInBounds_toArray, List.set_cons_succ, List.set_cons_zero]
              refine wpS_this [4, 5, 6, 7, 8, 9, 10, 11, 12, 13, 14, 15, 16, 17, 18, 19, 20, 21, 22, 23, 24] rfl (by kernel_rfl) (by simp only [pickL, nthL, List.cons_append, List.nil_append]; rfl) ?_
              repeat (go_big_quiet_step (fail))
              refine wpQuiet_nil ?_
              refine wpS_addrI (i := 25) (d := some 124) (b := qb) (n := M.length) (j := i) rfl (by rfl) rfl rfl rfl (by omega) rfl ?_
              simp only [Act.put, List.setIfInBounds_toArray, List.set_cons_succ, List.set_cons_zero]
              refine wpS_load1 (i := 26) (d := some 125) (u := .int .i64 lm) rfl (by rfl) rfl rfl ((HM67.out.cellL 3 rfl i).trans (by rw [List.getElem?_map, hlmq.out]; rfl)) Try.underlying3 rfl rfl ?_
              simp only [Act.put, List.setIfInBounds_toArray, List.set_cons_succ, List.set_cons_zero]
              refine wpS_this [27, 28] rfl (by kernel_rfl) (by simp only [pickL, nthL, List.cons_append, List.nil_append]; rfl) ?_
              repeat (go_big_quiet_step (fail))
              refine wpQuiet_nil ?_
              refine wpS_addrI (i := 29) (d := some 128) (b := qb) (n := M.length) (j := j) rfl (by rfl) rfl rfl rfl (by omega) rfl ?_
              simp only [Act.put, List.setIfInBounds_toArray, List.set_cons_succ, List.set_cons_zero]
              refine wpS_load1 (i := 30) (d := some 129) (u := .int .i64 lb) rfl (by rfl) rfl rfl ((HM67.out.cellL 3 rfl j).trans (by rw [List.getElem?_map, hlbq.out]; rfl)) Try.underlying3 rfl rfl ?_
              simp only [Act.put, List.setIfInBounds_toArray, List.set_cons_succ, List.set_cons_zero]
              refine wpS_this [31, 32, 33] rfl (by kernel_rfl) (by simp only [pickL, nthL, List.cons_append, List.nil_append]; rfl) ?_
              repeat (go_big_quiet_step (fail))
              refine wpQuiet_nil ?_
              refine wpS_nil ?_
              refine then_normal ?_
              refine wp_cond_true rfl ?_
              refine wp_region_N [(0, 1), (1, 1)] (by kernel_rfl) ?_
              refine wpS_this [0, 1] rfl (by kernel_rfl) (by simp only [pickL, nthL, List.cons_append, List.nil_append]; rfl) ?_
              repeat (go_big_quiet_step (fail))
              refine wpQuiet_nil ?_
              refine wpS_nil ?_
              refine block_normal ?_
              refine then_normal ?_
              refine wp_region_N [(0, 1), (1, 1)] (by kernel_rfl) ?_
              refine wpS_this [0, 1] rfl (by kernel_rfl) (by simp only [pickL, nthL, List.cons_append, List.nil_append]; rfl) ?_
              repeat (go_big_quiet_step (fail))
              refine wpQuiet_nil ?_
              refine wpS_nil ?_
              refine then_normal ?_
              refine ⟨by kernel_rfl, ?_⟩
              refine ⟨M.length - (i + 1), by omega, i + 1, rfl, rfl, ?_, hi1, (Mem.only (M := [_, _, _, _]) HM67.out [0, 0, 0, 0] rfl)⟩
              rw [bJ_hit (f := (fun n => n != av && n != bv)) hm hp.out (by simp [hf1.out, hf2.out]) (.inr ⟨j, mb, hbz.out, hmb, hlt.out⟩)]
              rfl
            · obtain ⟨lm, hlm'⟩ : ∃ z : Int, L3 m = z := ⟨_, rfl⟩
              have hlmq : (M.map L3)[i]? = some lm := by rw [List.getElem?_map, hm, ← hlm']; rfl
              have hlmq := Lib.hid hlmq
              have g1 : decide ((0 : Int) < lm) = true := decide_eq_true (by rw [← hlm']; exact hp)
              have g2 : (m != av) = true := by simp [hf1']
              have g3 : (m != bv) = true := by simp [hf2']
              have g4 : decide (bz < 0) = false := decide_eq_false hb0
              obtain ⟨j, rfl⟩ : ∃ j : Nat, bz = (j : Int) := ⟨bz.toNat, by omega⟩
              have hjM : j < M.length := by omega
              obtain ⟨mb, hmb⟩ : ∃ y, M[j]? = some y := ⟨_, List.getElem?_eq_getElem hjM⟩
              rw [Int.toNat_natCast, List.getD_eq_getElem?_getD, hmb] at hlt
              replace hlt : ¬ L3 mb < L3 m := hlt
              obtain ⟨lb, hlb'⟩ : ∃ z : Int, L3 mb = z := ⟨_, rfl⟩
              have hlbq : (M.map L3)[j]? = some lb := by rw [List.getElem?_map, hmb, ← hlb']; rfl
              have hlbq := Lib.hid hlbq
              have g5 : decide (lb < lm) = false := decide_eq_false (by rw [← hlb', ← hlm']; exact hlt)
              have hlt := Lib.hid hlt
              have hlb := Lib.hid hlb'
              clear hlb'
              have hlm := Lib.hid hlm'
              clear hlm'
              have hp := Lib.hid hp
              have hf1 := Lib.hid hf1'
              clear hf1'
              have hf2 := Lib.hid hf2'
              clear hf2'
              refine wp_region_M (fun k => k ∈ ([] : List Nat)) [(0, 1), (1, 1), (2, 1), (3, 1), (4, 1), (5, 1), (6, 1), (7, 1), (8, 1), (9, 1), (10, 1), (11, 1), (12, 1), (13, 1), (14, 1), (15, 1), (16, 1), (17, 1), (18, 1), (19, 1), (20, 1), (21, 1), (22, 1), (23, 1), (24, 1), (25, 1), (26, 1), (27, 1), (28, 1), (29, 1), (30, 1), (31, 1), (32, 1), (33, 1)] (by kernel_rfl) (by kernel_rfl) HM48.out ?_
              intro W68 hm69
              have HM70 := Lib.hid hm69
              clear hm69
              refine wpS_this [0, 1] rfl (by kernel_rfl) (by simp only [pickL, nthL, List.cons_append, List.nil_append]; rfl) ?_
              repeat (go_big_quiet_step (fail))
              refine wpQuiet_nil ?_
              refine wpS_addrI (i := 2) (d := some 101) (b := qb) (n := M.length) (j := i) rfl (by rfl) rfl rfl rfl (by omega) rfl ?_
              simp only [Act.put, List.setIfInBounds_toArray, List.set_cons_succ, List.set_cons_zero]
              refine wpS_load1 (i := 3) (d := some 102) (u := .int .i64 lm) rfl (by rfl) rfl rfl ((HM70.out.cellL 3 rfl i).trans (by rw [List.getElem?_map, hlmq.out]; rfl)) Try.underlying3 rfl rfl ?_
              simp only [Act.put, List.setIfInBounds_toArray, List.set_cons_succ, List.set_cons_zero]
              refine wpS_this [4, 5, 6, 7, 8, 9, 10, 11, 12, 13, 14, 15, 16, 17, 18, 19, 20, 21, 22, 23, 24] rfl (by kernel_rfl) (by simp only [pickL, nthL, List.cons_append, List.nil_append]; rfl) ?_
              repeat (go_big_quiet_step (fail))
              refine wpQuiet_nil ?_
              refine wpS_addrI (i := 25) (d := some 124) (b := qb) (n := M.length) (j := i) rfl (by rfl) rfl rfl rfl (by omega) rfl ?_
              simp only [Act.put, List.setIfInBounds_toArray, List.set_cons_succ, List.set_cons_zero]
              refine wpS_load1 (i := 26) (d := some 125) (u := .int .i64 lm) rfl (by rfl) rfl rfl ((HM70.out.cellL 3 rfl i).trans (by rw [List.getElem?_map, hlmq.out]; rfl)) Try.underlying3 rfl rfl ?_
              simp only [Act.put, List.setIfInBounds_toArray, List.set_cons_succ, List.set_cons_zero]
              refine wpS_this [27, 28] rfl (by kernel_rfl) (by simp only [pickL, nthL, List.cons_append, List.nil_append]; rfl) ?_
              repeat (go_big_quiet_step (fail))
              refine wpQuiet_nil ?_
              refine wpS_addrI (i := 29) (d := some 128) (b := qb) (n := M.length) (j := j) rfl (by rfl) rfl rfl rfl (by omega) rfl ?_
              simp only [Act.put, List.setIfInBounds_toArray, List.set_cons_succ, List.set_cons_zero]
              refine wpS_load1 (i := 30) (d := some 129) (u := .int .i64 lb) rfl (by rfl) rfl rfl ((HM70.out.cellL 3 rfl j).trans (by rw [List.getElem?_map, hlbq.out]; rfl)) Try.underlying3 rfl rfl ?_
              simp only [Act.put, List.setIfInBounds_toArray, List.set_cons_succ, List.set_cons_zero]
              refine wpS_this [31, 32, 33] rfl (by kernel_rfl) (by simp only [pickL, nthL, List.cons_append, List.nil_append]; rfl) ?_
              repeat (go_big_quiet_step (fail))
              refine wpQuiet_nil ?_
              refine wpS_nil ?_
              refine then_normal ?_
              refine wp_cond_false rfl ?_
              refine wp_skip ?_
              refine block_normal ?_
              refine then_normal ?_
              refine wp_region_N [(0, 1), (1, 1)] (by kernel_rfl) ?_
              refine wpS_this [0, 1] rfl (by kernel_rfl) (by simp only [pickL, nthL, List.cons_append, List.nil_append]; rfl) ?_
              repeat (go_big_quiet_step (fail))
              refine wpQuiet_nil ?_
              refine wpS_nil ?_
              refine then_normal ?_
              refine ⟨by kernel_rfl, ?_⟩
              refine ⟨M.length - (i + 1), by omega, i + 1, rfl, rfl, ?_, hi1, (Mem.only (M := [_, _, _, _]) HM70.out [0, 0, 0, 0] rfl)⟩
              rw [bJ_miss (f := (fun n => n != av && n != bv)) hm (.inr (.inr ⟨j, mb, hbz.out, hmb, hlt.out⟩)), hbz.out]
              rfl
          · have hge0 : Hid (M.length ≤ i) := Lib.hid (by have : ¬ (i : Int) < (M.length : Int) := (by simpa using h49); omega)
            clear h49
            refine wp_exit ?_
            refine then_exit (then_exit (block_exit ?_))
            refine then_normal ?_
            refine wp_seq ?_
            by_cases hb0 : 0 ≤ bz
            · have him : i = M.length := by have := hge0.out; omega
              subst him
              obtain ⟨j, rfl⟩ : ∃ j : Nat, bz = (j : Int) := ⟨bz.toNat, by omega⟩
              obtain ⟨nn, hn, hpk⟩ := pick_one hbz.out
              obtain ⟨lw, hlw'⟩ : ∃ z : Int, L3 nn = z := ⟨_, rfl⟩
              have hlwq : (M.map L3)[j]? = some lw := by rw [List.getElem?_map, hn, ← hlw']; rfl
              have hjM : j < M.length := (List.getElem?_eq_some_iff.1 hn).1
              have hlw1 : 0 < lw := by rw [← hlw']; exact (pickI_in hpk).2
              have hlw2 : lw ≤ 17 := by
                  rw [← hlw']
                  have h1 := hG.out.le nn
                  have h2 := keep_bound (now := now) hok.out (k := 16) (pickI_in hpk).1
                  omega
              have hlwq := Lib.hid hlwq
              have hpk := Lib.hid hpk
              have g6 : decide ((0 : Int) ≤ (j : Int)) = true := decide_eq_true (by omega)
              have hlw := Lib.hid hlw'
              clear hlw'
              refine wp_region_N [(0, 1), (1, 1)] (by kernel_rfl) ?_
              refine wpS_this [0, 1] rfl (by kernel_rfl) (by simp only [pickL, nthL, List.cons_append, List.nil_append]; rfl) ?_
              repeat (go_big_quiet_step (fail))
              refine wpQuiet_nil ?_
              refine wpS_nil ?_
              refine then_normal ?_
              refine wp_cond_true rfl ?_
              refine wp_exit ?_
              refine block_out (by decide) (then_exit (then_exit (block_exit ?_)))
              refine then_normal ?_
              refine wp_seq ?_
              refine wp_region_N [(0, 1), (1, 1), (2, 1), (3, 1), (4, 1), (5, 1), (6, 1), (7, 3)] (by kernel_rfl) ?_
              refine wpS_this [0, 1, 2, 3] rfl (by kernel_rfl) (by simp only [pickL, nthL, List.cons_append, List.nil_append]; rfl) ?_
              repeat (go_big_quiet_step (fail))
              refine wpQuiet_nil ?_
              refine wpS_index (E := elemI) (i := 4) (d := some 142) rfl (by rfl) rfl rfl rfl (rowAt_src (HM48.out.src 1 rfl rowT_reads)) (hn) rfl ?_
              intro eb71 eo72 hc73
              simp only [Act.put, List.setIfInBounds_toArray, List.set_cons_succ, List.set_cons_zero]
              refine wpS_load1 (i := 5) (d := some 143) (u := .int .i64 nn) rfl (by rfl) rfl rfl (hc73 0 _ rfl) Try.underlying3 rfl rfl ?_
              simp only [Act.put, List.setIfInBounds_toArray, List.set_cons_succ, List.set_cons_zero]
              refine wpS_addrI (i := 6) (d := some 144) (b := ob) (n := 16) (j := k) rfl (by rfl) rfl rfl rfl (by omega) rfl ?_
              simp only [Act.put, List.setIfInBounds_toArray, List.set_cons_succ, List.set_cons_zero]
              refine wpS_setI (i := 7) (z := nn) (L2 := [_, _, _]) rfl (by rfl) rfl rfl rfl HM48.out 2 rfl rfl (by omega) covS_nil rfl ?_
              rintro W75 hm74 -
              have HM76 := Lib.hid hm74
              clear hm74
              refine wpS_nil ?_
              refine then_normal ?_
              refine wp_region_N [(0, 1), (1, 1), (2, 1), (3, 1), (4, 1), (5, 1), (6, 3)] (by kernel_rfl) ?_
              refine wpS_this [0, 1] rfl (by kernel_rfl) (by simp only [pickL, nthL, List.cons_append, List.nil_append]; rfl) ?_
              repeat (go_big_quiet_step (fail))
              refine wpQuiet_nil ?_
              refine wpS_addrI (i := 2) (d := some 147) (b := qb) (n := M.length) (j := j) rfl (by rfl) rfl rfl rfl (by omega) rfl ?_
              simp only [Act.put, List.setIfInBounds_toArray, List.set_cons_succ, List.set_cons_zero]
              refine wpS_load1 (i := 3) (d := some 148) (u := .int .i64 lw) rfl (by rfl) rfl rfl ((HM76.out.cellL 3 rfl j).trans (by rw [List.getElem?_map, hlwq.out]; rfl)) Try.underlying3 rfl rfl ?_
              simp only [Act.put, List.setIfInBounds_toArray, List.set_cons_succ, List.set_cons_zero]
              refine wpS_this [4] rfl (by kernel_rfl) (by simp only [pickL, nthL, List.cons_append, List.nil_append]; rfl) ?_
              repeat (go_big_quiet_step (fail))
              refine wpQuiet_nil ?_
              refine wpS_addrI (i := 5) (d := some 150) (b := qb) (n := M.length) (j := j) rfl (by rfl) rfl rfl rfl (by omega) rfl ?_
              simp only [Act.put, List.setIfInBounds_toArray, List.set_cons_succ, List.set_cons_zero]
              refine wpS_setI (i := 6) (z := (lw - 1)) (L2 := [_, _, _]) rfl (by rfl) rfl rfl rfl HM76.out 3 rfl rfl (by rw [List.length_map]; omega) covS_nil rfl ?_
              rintro W78 hm77 -
              have HM79 := Lib.hid hm77
              clear hm77
              refine wpS_nil ?_
              refine block_normal ?_
              refine then_normal ?_
              refine wp_region_N [(0, 1), (1, 1)] (by kernel_rfl) ?_
              refine wpS_this [0, 1] rfl (by kernel_rfl) (by simp only [pickL, nthL, List.cons_append, List.nil_append]; rfl) ?_
              repeat (go_big_quiet_step (fail))
              refine wpQuiet_nil ?_
              refine wpS_nil ?_
              refine then_normal ?_
              refine ⟨by kernel_rfl, ?_⟩
              have hgv := gB_given (now := now) (M := M) (k := k) (n := nn) (by rw [hO2.out]; exact atL_of hx) (by rw [hO2.out, hL3.out, hj1.out, hj2.out, atL_of hav, atL_of hbv]; exact hpk.out)
              refine ⟨16 - (k + 1), by omega, k + 1, rfl, rfl, hk1, ?_⟩
              rw [hgv]
              dsimp only
              rw [hO2.out, hL3.out, map_upd hnd.out L3 hn, hlw.out]
              exact (Mem.only (M := [_, _, _, _]) HM79.out [2, 2, 1, 0] rfl)
            · have him : i = M.length := by have := hge0.out; omega
              subst him
              have hbm : Hid (bz = -1) := Lib.hid (by omega)
              have hneg : Hid (bJ M L3 (fun n => n != av && n != bv) M.length < 0) := Lib.hid (by rw [hbz.out]; omega)
              have g6 : decide ((0 : Int) ≤ bz) = false := decide_eq_false hb0
              refine wp_region_N [(0, 1), (1, 1)] (by kernel_rfl) ?_
              refine wpS_this [0, 1] rfl (by kernel_rfl) (by simp only [pickL, nthL, List.cons_append, List.nil_append]; rfl) ?_
              repeat (go_big_quiet_step (fail))
              refine wpQuiet_nil ?_
              refine wpS_nil ?_
              refine then_normal ?_
              refine wp_cond_false rfl ?_
              refine wp_skip ?_
              refine block_normal ?_
              refine then_normal ?_
              refine wp_region_N [(0, 1), (1, 1)] (by kernel_rfl) ?_
              refine wpS_this [0, 1] rfl (by kernel_rfl) (by simp only [pickL, nthL, List.cons_append, List.nil_append]; rfl) ?_
              repeat (go_big_quiet_step (fail))
              refine wpQuiet_nil ?_
              refine wpS_nil ?_
              refine then_normal ?_
              refine rounds_step ?_
              refine wp_seq ?_
              refine wp_region_N [(0, 1)] (by kernel_rfl) ?_
              refine wpS_this [0] rfl (by kernel_rfl) (by simp only [pickL, nthL, List.cons_append, List.nil_append]; rfl) ?_
              repeat (go_big_quiet_step (fail))
              refine wpQuiet_nil ?_
              refine wpS_nil ?_
              refine then_normal ?_
              refine wp_seq ?_
              refine wp_cond_true rfl ?_
              refine wp_skip ?_
              refine then_normal ?_
              refine wp_seq ?_
              refine wp_block ?_
              refine wp_seq ?_
              refine wp_region_N [(0, 1), (1, 1)] (by kernel_rfl) ?_
              refine wpS_this [0, 1] rfl (by kernel_rfl) (by simp only [pickL, nthL, List.cons_append, List.nil_append]; rfl) ?_
              repeat (go_big_quiet_step (fail))
              refine wpQuiet_nil ?_
              refine wpS_nil ?_
              refine then_normal ?_
              refine wp_seq ?_
              refine wp_seq ?_
              refine wp_region_N [(0, 1), (1, 1), (2, 1)] (by kernel_rfl) ?_
              refine wpS_this [0, 1, 2] rfl (by kernel_rfl) (by simp only [pickL, nthL, List.cons_append, List.nil_append]; rfl) ?_
              repeat (go_big_quiet_step (fail))
              refine wpQuiet_nil ?_
              refine wpS_nil ?_
              refine then_normal ?_
              refine wp_block ?_
              refine wp_loop_F [14, 16, 17, 94, 95, 96, 97, 98, 99, 100, 101, 102, 103, 104, 105, 106, 107, 108, 109, 110, 111, 112, 113, 114, 115, 116, 117, 118, 119, 120, 121, 122, 123, 124, 125, 126, 127, 128, 129, 130, 131, 132, 133, 134] (fun n xs W' => ∃ i : Nat, n = M.length - i ∧ xs 94 = .int .i64 (i : Int) ∧ xs 14 = .int .i64 (bJ M L3 (fun _ => true) i) ∧ i ≤ M.length ∧ Mem [R, rowT elemI (.slice mp M.length mc) M, intsT ob O2, intsT qb (M.map L3)] H w W') (n0 := M.length) ?_ ?_
              · refine ⟨0, rfl, rfl, ?_, Nat.zero_le _, (Mem.only (M := [_, _, _, _]) HM48.out [0, 0, 0, 0] rfl)⟩
                rw [hbm.out]
                rfl
              rintro n xs W' ⟨i, rfl, e94, e14, hi, hmm2⟩
              simp only [putAll, List.map_cons, List.map_nil, Act.put, List.setIfInBounds_toArray, List.set_cons_succ, List.set_cons_zero]
              rw [e94, e14]
              clear e94 e14
              have hbr := bJ_range M L3 (fun _ => true) i
              obtain ⟨bz, hbz'⟩ : ∃ z : Int, bJ M L3 (fun _ => true) i = z := ⟨_, rfl⟩
              rw [hbz'] at hbr ⊢
              obtain ⟨hb1, hb2⟩ := hbr
              have hbz := Lib.hid hbz'
              clear hbz'
              have HM80 := Lib.hid hmm2
              clear hmm2
              refine wp_seq ?_
              refine wp_region_N [(0, 1)] (by kernel_rfl) ?_
              refine wpS_this [0] rfl (by kernel_rfl) (by simp only [pickL, nthL, List.cons_append, List.nil_append]; rfl) ?_
              repeat (go_big_quiet_step (fail))
              refine wpQuiet_nil ?_
              refine wpS_nil ?_
              refine then_normal ?_
              refine wp_seq ?_
              refine wp_cond_split rfl (fun h81 => ?_) (fun h81 => ?_)
              · have hi1 : i + 1 ≤ M.length := by have : (i : Int) < ((M.length : Nat) : Int) := (by simpa using h81); omega
                clear h81
                obtain ⟨m, hm⟩ : ∃ y, M[i]? = some y := ⟨_, List.getElem?_eq_getElem hi1⟩
                refine wp_skip ?_
                refine then_normal ?_
                refine wp_seq ?_
                refine wp_block ?_
                refine wp_seq ?_
                refine wp_region_N [(0, 1), (1, 1), (2, 1), (3, 1), (4, 1)] (by kernel_rfl) ?_
                refine wpS_this [0] rfl (by kernel_rfl) (by simp only [pickL, nthL, List.cons_append, List.nil_append]; rfl) ?_
                repeat (go_big_quiet_step (fail))
                refine wpQuiet_nil ?_
                refine wpS_index (E := elemI) (i := 1) (d := some 97) rfl (by rfl) rfl rfl rfl (rowAt_src (HM80.out.src 1 rfl rowT_reads)) (hm) rfl ?_
                intro eb82 eo83 hc84
                simp only [Act.put, List.setIfInBounds_toArray, List.set_cons_succ, List.set_cons_zero]
                refine wpS_load1 (i := 2) (d := some 98) (u := .int .i64 m) rfl (by rfl) rfl rfl (hc84 0 _ rfl) Try.underlying3 rfl rfl ?_
                simp only [Act.put, List.setIfInBounds_toArray, List.set_cons_succ, List.set_cons_zero]
                refine wpS_this [3, 4] rfl (by kernel_rfl) (by simp only [pickL, nthL, List.cons_append, List.nil_append]; rfl) ?_
                repeat (go_big_quiet_step (fail))
                refine wpQuiet_nil ?_
                refine wpS_nil ?_
                refine then_normal ?_
                refine wp_seq ?_
                rcases ways4 (0 < L3 m) (bz < 0) (L3 (M.getD bz.toNat 0) < L3 m) with hp | ⟨hp, hb0 | ⟨hb0, hlt⟩ | ⟨hb0, hlt⟩⟩
                · obtain ⟨lm, hlm'⟩ : ∃ z : Int, L3 m = z := ⟨_, rfl⟩
                  have hlmq : (M.map L3)[i]? = some lm := by rw [List.getElem?_map, hm, ← hlm']; rfl
                  have hlmq := Lib.hid hlmq
                  have g1 : decide ((0 : Int) < lm) = false := decide_eq_false (by rw [← hlm']; exact hp)
                  have hlm := Lib.hid hlm'
                  clear hlm'
                  have hp := Lib.hid hp
                  refine wp_region_M (fun k => k ∈ ([] : List Nat)) [(0, 1), (1, 1), (2, 1), (3, 1), (4, 1), (5, 1), (6, 1), (7, 1), (8, 1), (9, 1), (10, 1), (11, 1), (12, 1), (13, 1), (14, 1), (15, 1), (16, 1), (17, 1), (18, 1), (19, 1), (20, 1), (21, 1), (22, 1), (23, 1), (24, 1), (25, 1), (26, 1), (27, 1), (28, 1), (29, 1), (30, 1), (31, 1), (32, 1), (33, 1)] (by kernel_rfl) (by kernel_rfl) HM80.out ?_
                  intro W85 hm86
                  have HM87 := Lib.hid hm86
                  clear hm86
                  refine wpS_this [0, 1] rfl (by kernel_rfl) (by simp only [pickL, nthL, List.cons_append, List.nil_append]; rfl) ?_
                  repeat (go_big_quiet_step (fail))
                  refine wpQuiet_nil ?_
                  refine wpS_addrI (i := 2) (d := some 101) (b := qb) (n := M.length) (j := i) rfl (by rfl) rfl rfl rfl (by omega) rfl ?_
                  simp only [Act.put, List.setIfInBounds_toArray, List.set_cons_succ, List.set_cons_zero]
                  refine wpS_load1 (i := 3) (d := some 102) (u := .int .i64 lm) rfl (by rfl) rfl rfl ((HM87.out.cellL 3 rfl i).trans (by rw [List.getElem?_map, hlmq.out]; rfl)) Try.underlying3 rfl rfl ?_
                  simp only [Act.put, List.setIfInBounds_toArray, List.set_cons_succ, List.set_cons_zero]
                  refine wpS_this [4, 5, 6, 7, 8, 9, 10, 11, 12, 13, 14, 15, 16, 17, 18, 19, 20, 21, 22, 23, 24] rfl (by kernel_rfl) (by simp only [pickL, nthL, List.cons_append, List.nil_append]; rfl) ?_
                  repeat (go_big_quiet_step (fail))
                  refine wpQuiet_nil ?_
                  refine wpS_skip (i := 25) (d := some 124) rfl (by rfl) rfl ?_
                  simp only [Act.put, List.setIfInBounds_toArray, List.set_cons_succ, List.set_cons_zero]
                  refine wpS_skip (i := 26) (d := some 125) rfl (by rfl) rfl ?_
                  simp only [Act.put, List.setIfInBounds_toArray, List.set_cons_succ, List.set_cons_zero]
                  refine wpS_this [27, 28] rfl (by kernel_rfl) (by simp only [pickL, nthL, List.cons_append, List.nil_append]; rfl) ?_
                  repeat (go_big_quiet_step (fail))
                  refine wpQuiet_nil ?_
                  refine wpS_skip (i := 29) (d := some 128) rfl (by rfl) rfl ?_
                  simp only [Act.put, List.setIfInBounds_toArray, List.set_cons_succ, List.set_cons_zero]
                  refine wpS_skip (i := 30) (d := some 129) rfl (by rfl) rfl ?_
                  simp only [Act.put, List.setIfInBounds_toArray, List.set_cons_succ, List.set_cons_zero]
                  refine wpS_this [31, 32, 33] rfl (by kernel_rfl) (by simp only [pickL, nthL, List.cons_append, List.nil_append]; rfl) ?_
                  repeat (go_big_quiet_step (fail))
                  refine wpQuiet_nil ?_
                  refine wpS_nil ?_
                  refine then_normal ?_
                  refine wp_cond_false rfl ?_
                  refine wp_skip ?_
                  refine block_normal ?_
                  refine then_normal ?_
                  refine wp_region_N [(0, 1), (1, 1)] (by kernel_rfl) ?_
                  refine wpS_this [0, 1] rfl (by kernel_rfl) (by simp only [pickL, nthL, List.cons_append, List.nil_append]; rfl) ?_
                  repeat (go_big_quiet_step (fail))
                  refine wpQuiet_nil ?_
                  refine wpS_nil ?_
                  refine then_normal ?_
                  refine ⟨by kernel_rfl, ?_⟩
                  refine ⟨M.length - (i + 1), by omega, i + 1, rfl, rfl, ?_, hi1, (Mem.only (M := [_, _, _, _]) HM87.out [0, 0, 0, 0] rfl)⟩
                  rw [bJ_miss (f := (fun _ => true)) hm (.inl hp.out), hbz.out]
                  rfl
                · obtain ⟨lm, hlm'⟩ : ∃ z : Int, L3 m = z := ⟨_, rfl⟩
                  have hlmq : (M.map L3)[i]? = some lm := by rw [List.getElem?_map, hm, ← hlm']; rfl
                  have hlmq := Lib.hid hlmq
                  have g1 : decide ((0 : Int) < lm) = true := decide_eq_true (by rw [← hlm']; exact hp)
                  have g4 : decide (bz < 0) = true := decide_eq_true hb0
                  have hlm := Lib.hid hlm'
                  clear hlm'
                  have hp := Lib.hid hp
                  have hb0 := Lib.hid hb0
                  refine wp_region_M (fun k => k ∈ ([] : List Nat)) [(0, 1), (1, 1), (2, 1), (3, 1), (4, 1), (5, 1), (6, 1), (7, 1), (8, 1), (9, 1), (10, 1), (11, 1), (12, 1), (13, 1), (14, 1), (15, 1), (16, 1), (17, 1), (18, 1), (19, 1), (20, 1), (21, 1), (22, 1), (23, 1), (24, 1), (25, 1), (26, 1), (27, 1), (28, 1), (29, 1), (30, 1), (31, 1), (32, 1), (33, 1)] (by kernel_rfl) (by kernel_rfl) HM80.out ?_
                  intro W88 hm89
                  have HM90 := Lib.hid hm89
                  clear hm89
                  refine wpS_this [0, 1] rfl (by kernel_rfl) (by simp only [pickL, nthL, List.cons_append, List.nil_append]; rfl) ?_
                  repeat (go_big_quiet_step (fail))
                  refine wpQuiet_nil ?_
                  refine wpS_addrI (i := 2) (d := some 101) (b := qb) (n := M.length) (j := i) rfl (by rfl) rfl rfl rfl (by omega) rfl ?_
                  simp only [Act.put, List.setIfInBounds_toArray, List.set_cons_succ, List.set_cons_zero]
                  refine wpS_load1 (i := 3) (d := some 102) (u := .int .i64 lm) rfl (by rfl) rfl rfl ((HM90.out.cellL 3 rfl i).trans (by rw [List.getElem?_map, hlmq.out]; rfl)) Try.underlying3 rfl rfl ?_
                  simp only [Act.put, List.setIfInBounds_toArray, List.set_cons_succ, List.set_cons_zero]
                  refine wpS_this [4, 5, 6, 7, 8, 9, 10, 11, 12, 13, 14, 15, 16, 17, 18, 19, 20, 21, 22, 23, 24] rfl (by kernel_rfl) (by simp only [pickL, nthL, List.cons_append, List.nil_append]; rfl) ?_
                  repeat (go_big_quiet_step (fail))
                  refine wpQuiet_nil ?_
                  refine wpS_skip (i := 25) (d := some 124) rfl (by rfl) rfl ?_
                  simp only [Act.put, List.setIfInBounds_toArray, List.set_cons_succ, List.set_cons_zero]
                  refine wpS_skip (i := 26) (d := some 125) rfl (by rfl) rfl ?_
                  simp only [Act.put, List.setIfInBounds_toArray, List.set_cons_succ, List.set_cons_zero]
                  refine wpS_this [27, 28] rfl (by kernel_rfl) (by simp only [pickL, nthL, List.cons_append, List.nil_append]; rfl) ?_
                  repeat (go_big_quiet_step (fail))
                  refine wpQuiet_nil ?_
                  refine wpS_skip (i := 29) (d := some 128) rfl (by rfl) rfl ?_
                  simp only [Act.put, List.setIfInBounds_toArray, List.set_cons_succ, List.set_cons_zero]
                  refine wpS_skip (i := 30) (d := some 129) rfl (by rfl) rfl ?_
                  simp only [Act.put, List.setIfInBounds_toArray, List.set_cons_succ, List.set_cons_zero]
                  refine wpS_this [31, 32, 33] rfl (by kernel_rfl) (by simp only [pickL, nthL, List.cons_append, List.nil_append]; rfl) ?_
                  repeat (go_big_quiet_step (fail))
                  refine wpQuiet_nil ?_
                  refine wpS_nil ?_
                  refine then_normal ?_
                  refine wp_cond_true rfl ?_
                  refine wp_region_N [(0, 1), (1, 1)] (by kernel_rfl) ?_
                  refine wpS_this [0, 1] rfl (by kernel_rfl) (by simp only [pickL, nthL, List.cons_append, List.nil_append]; rfl) ?_
                  repeat (go_big_quiet_step (fail))
                  refine wpQuiet_nil ?_
                  refine wpS_nil ?_
                  refine block_normal ?_
                  refine then_normal ?_
                  refine wp_region_N [(0, 1), (1, 1)] (by kernel_rfl) ?_
                  refine wpS_this [0, 1] rfl (by kernel_rfl) (by simp only [pickL, nthL, List.cons_append, List.nil_append]; rfl) ?_
                  repeat (go_big_quiet_step (fail))
                  refine wpQuiet_nil ?_
                  refine wpS_nil ?_
                  refine then_normal ?_
                  refine ⟨by kernel_rfl, ?_⟩
                  refine ⟨M.length - (i + 1), by omega, i + 1, rfl, rfl, ?_, hi1, (Mem.only (M := [_, _, _, _]) HM90.out [0, 0, 0, 0] rfl)⟩
                  rw [bJ_hit (f := (fun _ => true)) hm hp.out rfl (.inl (by rw [hbz.out]; exact hb0.out))]
                  rfl
                · obtain ⟨lm, hlm'⟩ : ∃ z : Int, L3 m = z := ⟨_, rfl⟩
                  have hlmq : (M.map L3)[i]? = some lm := by rw [List.getElem?_map, hm, ← hlm']; rfl
                  have hlmq := Lib.hid hlmq
                  have g1 : decide ((0 : Int) < lm) = true := decide_eq_true (by rw [← hlm']; exact hp)
                  have g4 : decide (bz < 0) = false := decide_eq_false hb0
                  obtain ⟨j, rfl⟩ : ∃ j : Nat, bz = (j : Int) := ⟨bz.toNat, by omega⟩
                  have hjM : j < M.length := by omega
                  obtain ⟨mb, hmb⟩ : ∃ y, M[j]? = some y := ⟨_, List.getElem?_eq_getElem hjM⟩
                  rw [Int.toNat_natCast, List.getD_eq_getElem?_getD, hmb] at hlt
                  replace hlt : L3 mb < L3 m := hlt
                  obtain ⟨lb, hlb'⟩ : ∃ z : Int, L3 mb = z := ⟨_, rfl⟩
                  have hlbq : (M.map L3)[j]? = some lb := by rw [List.getElem?_map, hmb, ← hlb']; rfl
                  have hlbq := Lib.hid hlbq
                  have g5 : decide (lb < lm) = true := decide_eq_true (by rw [← hlb', ← hlm']; exact hlt)
                  have hlt := Lib.hid hlt
                  have hlb := Lib.hid hlb'
                  clear hlb'
                  have hlm := Lib.hid hlm'
                  clear hlm'
                  have hp := Lib.hid hp
                  refine wp_region_M (fun k => k ∈ ([] : List Nat)) [(0, 1), (1, 1), (2, 1), (3, 1), (4, 1), (5, 1), (6, 1), (7, 1), (8, 1), (9, 1), (10, 1), (11, 1), (12, 1), (13, 1), (14, 1), (15, 1), (16, 1), (17, 1), (18, 1), (19, 1), (20, 1), (21, 1), (22, 1), (23, 1), (24, 1), (25, 1), (26, 1), (27, 1), (28, 1), (29, 1), (30, 1), (31, 1), (32, 1), (33, 1)] (by kernel_rfl) (by kernel_rfl) HM80.out ?_
                  intro W91 hm92
                  have HM93 := Lib.hid hm92
                  clear hm92
                  refine wpS_this [0, 1] rfl (by kernel_rfl) (by simp only [pickL, nthL, List.cons_append, List.nil_append]; rfl) ?_
                  repeat (go_big_quiet_step (fail))
                  refine wpQuiet_nil ?_
                  refine wpS_addrI (i := 2) (d := some 101) (b := qb) (n := M.length) (j := i) rfl (by rfl) rfl rfl rfl (by omega) rfl ?_
                  simp only [Act.put, List.setIfInBounds_toArray, List.set_cons_succ, List.set_cons_zero]
                  refine wpS_load1 (i := 3) (d := some 102) (u := .int .i64 lm) rfl (by rfl) rfl rfl ((HM93.out.cellL 3 rfl i).trans (by rw [List.getElem?_map, hlmq.out]; rfl)) Try.underlying3 rfl rfl ?_
                  simp only [Act.put, List.setIfInBounds_toArray, List.set_cons_succ, List.set_cons_zero]
                  refine wpS_this [4, 5, 6, 7, 8, 9, 10, 11, 12, 13, 14, 15, 16, 17, 18, 19, 20, 21, 22, 23, 24] rfl (by kernel_rfl) (by simp only [pickL, nthL, List.cons_append, List.nil_append]; rfl) ?_
                  repeat (go_big_quiet_step (fail))
                  refine wpQuiet_nil ?_
                  refine wpS_addrI (i := 25) (d := some 124) (b := qb) (n := M.length) (j := i) rfl (by rfl) rfl rfl rfl (by omega) rfl ?_
                  simp only [Act.put, List.setIfInBounds_toArray, List.set_cons_succ, List.set_cons_zero]
                  refine wpS_load1 (i := 26) (d := some 125) (u := .int .i64 lm) rfl (by rfl) rfl rfl ((HM93.out.cellL 3 rfl i).trans (by rw [List.getElem?_map, hlmq.out]; rfl)) Try.underlying3 rfl rfl ?_
                  simp only [Act.put, List.setIfInBounds_toArray, List.set_cons_succ, List.set_cons_zero]
                  refine wpS_this [27, 28] rfl (by kernel_rfl) (by simp only [pickL, nthL, List.cons_append, List.nil_append]; rfl) ?_
                  repeat (go_big_quiet_step (fail))
                  refine wpQuiet_nil ?_
                  refine wpS_addrI (i := 29) (d := some 128) (b := qb) (n := M.length) (j := j) rfl (by rfl) rfl rfl rfl (by omega) rfl ?_
                  simp only [Act.put, List.setIfInBounds_toArray, List.set_cons_succ, List.set_cons_zero]
                  refine wpS_load1 (i := 30) (d := some 129) (u := .int .i64 lb) rfl (by rfl) rfl rfl ((HM93.out.cellL 3 rfl j).trans (by rw [List.getElem?_map, hlbq.out]; rfl)) Try.underlying3 rfl rfl ?_
                  simp only [Act.put, List.setIfInBounds_toArray, List.set_cons_succ, List.set_cons_zero]
                  refine wpS_this [31, 32, 33] rfl (by kernel_rfl) (by simp only [pickL, nthL, List.cons_append, List.nil_append]; rfl) ?_
                  repeat (go_big_quiet_step (fail))
                  refine wpQuiet_nil ?_
                  refine wpS_nil ?_
                  refine then_normal ?_
                  refine wp_cond_true rfl ?_
                  refine wp_region_N [(0, 1), (1, 1)] (by kernel_rfl) ?_
                  refine wpS_this [0, 1] rfl (by kernel_rfl) (by simp only [pickL, nthL, List.cons_append, List.nil_append]; rfl) ?_
                  repeat (go_big_quiet_step (fail))
                  refine wpQuiet_nil ?_
                  refine wpS_nil ?_
                  refine block_normal ?_
                  refine then_normal ?_
                  refine wp_region_N [(0, 1), (1, 1)] (by kernel_rfl) ?_
                  refine wpS_this [0, 1] rfl (by kernel_rfl) (by simp only [pickL, nthL, List.cons_append, List.nil_append]; rfl) ?_
                  repeat (go_big_quiet_step (fail))
                  refine wpQuiet_nil ?_
                  refine wpS_nil ?_
                  refine then_normal ?_
                  refine ⟨by kernel_rfl, ?_⟩
                  refine ⟨M.length - (i + 1), by omega, i + 1, rfl, rfl, ?_, hi1, (Mem.only (M := [_, _, _, _]) HM93.out [0, 0, 0, 0] rfl)⟩
                  rw [bJ_hit (f := (fun _ => true)) hm hp.out rfl (.inr ⟨j, mb, hbz.out, hmb, hlt.out⟩)]
                  rfl
                · obtain ⟨lm, hlm'⟩ : ∃ z : Int, L3 m = z := ⟨_, rfl⟩
                  have hlmq : (M.map L3)[i]? = some lm := by rw [List.getElem?_map, hm, ← hlm']; rfl
                  have hlmq := Lib.hid hlmq
                  have g1 : decide ((0 : Int) < lm) = true := decide_eq_true (by rw [← hlm']; exact hp)
                  have g4 : decide (bz < 0) = false := decide_eq_false hb0
                  obtain ⟨j, rfl⟩ : ∃ j : Nat, bz = (j : Int) := ⟨bz.toNat, by omega⟩
                  have hjM : j < M.length := by omega
                  obtain ⟨mb, hmb⟩ : ∃ y, M[j]? = some y := ⟨_, List.getElem?_eq_getElem hjM⟩
                  rw [Int.toNat_natCast, List.getD_eq_getElem?_getD, hmb] at hlt
                  replace hlt : ¬ L3 mb < L3 m := hlt
                  obtain ⟨lb, hlb'⟩ : ∃ z : Int, L3 mb = z := ⟨_, rfl⟩
                  have hlbq : (M.map L3)[j]? = some lb := by rw [List.getElem?_map, hmb, ← hlb']; rfl
                  have hlbq := Lib.hid hlbq
                  have g5 : decide (lb < lm) = false := decide_eq_false (by rw [← hlb', ← hlm']; exact hlt)
                  have hlt := Lib.hid hlt
                  have hlb := Lib.hid hlb'
                  clear hlb'
                  have hlm := Lib.hid hlm'
                  clear hlm'
                  have hp := Lib.hid hp
                  refine wp_region_M (fun k => k ∈ ([] : List Nat)) [(0, 1), (1, 1), (2, 1), (3, 1), (4, 1), (5, 1), (6, 1), (7, 1), (8, 1), (9, 1), (10, 1), (11, 1), (12, 1), (13, 1), (14, 1), (15, 1), (16, 1), (17, 1), (18, 1), (19, 1), (20, 1), (21, 1), (22, 1), (23, 1), (24, 1), (25, 1), (26, 1), (27, 1), (28, 1), (29, 1), (30, 1), (31, 1), (32, 1), (33, 1)] (by kernel_rfl) (by kernel_rfl) HM80.out ?_
                  intro W94 hm95
                  have HM96 := Lib.hid hm95
                  clear hm95
                  refine wpS_this [0, 1] rfl (by kernel_rfl) (by simp only [pickL, nthL, List.cons_append, List.nil_append]; rfl) ?_
                  repeat (go_big_quiet_step (fail))
                  refine wpQuiet_nil ?_
                  refine wpS_addrI (i := 2) (d := some 101) (b := qb) (n := M.length) (j := i) rfl (by rfl) rfl rfl rfl (by omega) rfl ?_
                  simp only [Act.put, List.setIfInBounds_toArray, List.set_cons_succ, List.set_cons_zero]
                  refine wpS_load1 (i := 3) (d := some 102) (u := .int .i64 lm) rfl (by rfl) rfl rfl ((HM96.out.cellL 3 rfl i).trans (by rw [List.getElem?_map, hlmq.out]; rfl)) Try.underlying3 rfl rfl ?_
                  simp only [Act.put, List.setIfInBounds_toArray, List.set_cons_succ, List.set_cons_zero]
                  refine wpS_this [4, 5, 6, 7, 8, 9, 10, 11, 12, 13, 14, 15, 16, 17, 18, 19, 20, 21, 22, 23, 24] rfl (by kernel_rfl) (by simp only [pickL, nthL, List.cons_append, List.nil_append]; rfl) ?_
                  repeat (go_big_quiet_step (fail))
                  refine wpQuiet_nil ?_
                  refine wpS_addrI (i := 25) (d := some 124) (b := qb) (n := M.length) (j := i) rfl (by rfl) rfl rfl rfl (by omega) rfl ?_
                  simp only [Act.put, List.setIfInBounds_toArray, List.set_cons_succ, List.set_cons_zero]
                  refine wpS_load1 (i := 26) (d := some 125) (u := .int .i64 lm) rfl (by rfl) rfl rfl ((HM96.out.cellL 3 rfl i).trans (by rw [List.getElem?_map, hlmq.out]; rfl)) Try.underlying3 rfl rfl ?_
                  simp only [Act.put, List.setIfInBounds_toArray, List.set_cons_succ, List.set_cons_zero]
                  refine wpS_this [27, 28] rfl (by kernel_rfl) (by simp only [pickL, nthL, List.cons_append, List.nil_append]; rfl) ?_
                  repeat (go_big_quiet_step (fail))
                  refine wpQuiet_nil ?_
                  refine wpS_addrI (i := 29) (d := some 128) (b := qb) (n := M.length) (j := j) rfl (by rfl) rfl rfl rfl (by omega) rfl ?_
                  simp only [Act.put, List.setIfInBounds_toArray, List.set_cons_succ, List.set_cons_zero]
                  refine wpS_load1 (i := 30) (d := some 129) (u := .int .i64 lb) rfl (by rfl) rfl rfl ((HM96.out.cellL 3 rfl j).trans (by rw [List.getElem?_map, hlbq.out]; rfl)) Try.underlying3 rfl rfl ?_
                  simp only [Act.put, List.setIfInBounds_toArray, List.set_cons_succ, List.set_cons_zero]
                  refine wpS_this [31, 32, 33] rfl (by kernel_rfl) (by simp only [pickL, nthL, List.cons_append, List.nil_append]; rfl) ?_
                  repeat (go_big_quiet_step (fail))
                  refine wpQuiet_nil ?_
                  refine wpS_nil ?_
                  refine then_normal ?_
                  refine wp_cond_false rfl ?_
                  refine wp_skip ?_
                  refine block_normal ?_
                  refine then_normal ?_
                  refine wp_region_N [(0, 1), (1, 1)] (by kernel_rfl) ?_
                  refine wpS_this [0, 1] rfl (by kernel_rfl) (by simp only [pickL, nthL, List.cons_append, List.nil_append]; rfl) ?_
                  repeat (go_big_quiet_step (fail))
                  refine wpQuiet_nil ?_
                  refine wpS_nil ?_
                  refine then_normal ?_
                  refine ⟨by kernel_rfl, ?_⟩
                  refine ⟨M.length - (i + 1), by omega, i + 1, rfl, rfl, ?_, hi1, (Mem.only (M := [_, _, _, _]) HM96.out [0, 0, 0, 0] rfl)⟩
                  rw [bJ_miss (f := (fun _ => true)) hm (.inr (.inr ⟨j, mb, hbz.out, hmb, hlt.out⟩)), hbz.out]
                  rfl
              · have hge1 : Hid (M.length ≤ i) := Lib.hid (by have : ¬ (i : Int) < (M.length : Int) := (by simpa using h81); omega)
                clear h81
                refine wp_exit ?_
                refine then_exit (then_exit (block_exit ?_))
                refine then_normal ?_
                refine wp_seq ?_
                have hex : ∃ n ∈ M, 0 < L3 n := sum_pos (by rw [hG.out.sum]; exact_mod_cast List.count_pos_iff.2 (List.mem_of_getElem? hx))
                · have him : i = M.length := by have := hge1.out; omega
                  subst him
                  obtain ⟨j, nn, hj, hn, hpk⟩ := pick_two (a := av) (b := bv) hex hneg.out
                  rw [hbz.out] at hj
                  subst hj
                  obtain ⟨lw, hlw'⟩ : ∃ z : Int, L3 nn = z := ⟨_, rfl⟩
                  have hlwq : (M.map L3)[j]? = some lw := by rw [List.getElem?_map, hn, ← hlw']; rfl
                  have hjM : j < M.length := (List.getElem?_eq_some_iff.1 hn).1
                  have hlw1 : 0 < lw := by rw [← hlw']; exact (pickI_in hpk).2
                  have hlw2 : lw ≤ 17 := by
                      rw [← hlw']
                      have h1 := hG.out.le nn
                      have h2 := keep_bound (now := now) hok.out (k := 16) (pickI_in hpk).1
                      omega
                  have hlwq := Lib.hid hlwq
                  have hpk := Lib.hid hpk
                  have g6 : decide ((0 : Int) ≤ (j : Int)) = true := decide_eq_true (by omega)
                  have hlw := Lib.hid hlw'
                  clear hlw'
                  refine wp_region_N [(0, 1), (1, 1)] (by kernel_rfl) ?_
                  refine wpS_this [0, 1] rfl (by kernel_rfl) (by simp only [pickL, nthL, List.cons_append, List.nil_append]; rfl) ?_
                  repeat (go_big_quiet_step (fail))
                  refine wpQuiet_nil ?_
                  refine wpS_nil ?_
                  refine then_normal ?_
                  refine wp_cond_true rfl ?_
                  refine wp_exit ?_
                  refine block_out (by decide) (then_exit (then_exit (block_exit ?_)))
                  refine then_normal ?_
                  refine wp_seq ?_
                  refine wp_region_N [(0, 1), (1, 1), (2, 1), (3, 1), (4, 1), (5, 1), (6, 1), (7, 3)] (by kernel_rfl) ?_
                  refine wpS_this [0, 1, 2, 3] rfl (by kernel_rfl) (by simp only [pickL, nthL, List.cons_append, List.nil_append]; rfl) ?_
                  repeat (go_big_quiet_step (fail))
                  refine wpQuiet_nil ?_
                  refine wpS_index (E := elemI) (i := 4) (d := some 142) rfl (by rfl) rfl rfl rfl (rowAt_src (HM80.out.src 1 rfl rowT_reads)) (hn) rfl ?_
                  intro eb97 eo98 hc99
                  simp only [Act.put, List.setIfInBounds_toArray, List.set_cons_succ, List.set_cons_zero]
                  refine wpS_load1 (i := 5) (d := some 143) (u := .int .i64 nn) rfl (by rfl) rfl rfl (hc99 0 _ rfl) Try.underlying3 rfl rfl ?_
                  simp only [Act.put, List.setIfInBounds_toArray, List.set_cons_succ, List.set_cons_zero]
                  refine wpS_addrI (i := 6) (d := some 144) (b := ob) (n := 16) (j := k) rfl (by rfl) rfl rfl rfl (by omega) rfl ?_
                  simp only [Act.put, List.setIfInBounds_toArray, List.set_cons_succ, List.set_cons_zero]
                  refine wpS_setI (i := 7) (z := nn) (L2 := [_, _, _]) rfl (by rfl) rfl rfl rfl HM80.out 2 rfl rfl (by omega) covS_nil rfl ?_
                  rintro W101 hm100 -
                  have HM102 := Lib.hid hm100
                  clear hm100
                  refine wpS_nil ?_
                  refine then_normal ?_
                  refine wp_region_N [(0, 1), (1, 1), (2, 1), (3, 1), (4, 1), (5, 1), (6, 3)] (by kernel_rfl) ?_
                  refine wpS_this [0, 1] rfl (by kernel_rfl) (by simp only [pickL, nthL, List.cons_append, List.nil_append]; rfl) ?_
                  repeat (go_big_quiet_step (fail))
                  refine wpQuiet_nil ?_
                  refine wpS_addrI (i := 2) (d := some 147) (b := qb) (n := M.length) (j := j) rfl (by rfl) rfl rfl rfl (by omega) rfl ?_
                  simp only [Act.put, List.setIfInBounds_toArray, List.set_cons_succ, List.set_cons_zero]
                  refine wpS_load1 (i := 3) (d := some 148) (u := .int .i64 lw) rfl (by rfl) rfl rfl ((HM102.out.cellL 3 rfl j).trans (by rw [List.getElem?_map, hlwq.out]; rfl)) Try.underlying3 rfl rfl ?_
                  simp only [Act.put, List.setIfInBounds_toArray, List.set_cons_succ, List.set_cons_zero]
                  refine wpS_this [4] rfl (by kernel_rfl) (by simp only [pickL, nthL, List.cons_append, List.nil_append]; rfl) ?_
                  repeat (go_big_quiet_step (fail))
                  refine wpQuiet_nil ?_
                  refine wpS_addrI (i := 5) (d := some 150) (b := qb) (n := M.length) (j := j) rfl (by rfl) rfl rfl rfl (by omega) rfl ?_
                  simp only [Act.put, List.setIfInBounds_toArray, List.set_cons_succ, List.set_cons_zero]
                  refine wpS_setI (i := 6) (z := (lw - 1)) (L2 := [_, _, _]) rfl (by rfl) rfl rfl rfl HM102.out 3 rfl rfl (by rw [List.length_map]; omega) covS_nil rfl ?_
                  rintro W104 hm103 -
                  have HM105 := Lib.hid hm103
                  clear hm103
                  refine wpS_nil ?_
                  refine block_normal ?_
                  refine then_normal ?_
                  refine wp_region_N [(0, 1), (1, 1)] (by kernel_rfl) ?_
                  refine wpS_this [0, 1] rfl (by kernel_rfl) (by simp only [pickL, nthL, List.cons_append, List.nil_append]; rfl) ?_
                  repeat (go_big_quiet_step (fail))
                  refine wpQuiet_nil ?_
                  refine wpS_nil ?_
                  refine then_normal ?_
                  refine ⟨by kernel_rfl, ?_⟩
                  have hgv := gB_given (now := now) (M := M) (k := k) (n := nn) (by rw [hO2.out]; exact atL_of hx) (by rw [hO2.out, hL3.out, hj1.out, hj2.out, atL_of hav, atL_of hbv]; exact hpk.out)
                  refine ⟨16 - (k + 1), by omega, k + 1, rfl, rfl, hk1, ?_⟩
                  rw [hgv]
                  dsimp only
                  rw [hO2.out, hL3.out, map_upd hnd.out L3 hn, hlw.out]
                  exact (Mem.only (M := [_, _, _, _]) HM105.out [2, 2, 1, 0] rfl)
        · have hx2 := hok.out.node x hx1
          have g1 : decide ((0 : Int) ≤ x) = true := decide_eq_true (by omega)
          refine wp_region_N [(0, 1), (1, 1), (2, 1), (3, 1), (4, 1)] (by kernel_rfl) ?_
          refine wpS_this [0, 1] rfl (by kernel_rfl) (by simp only [pickL, nthL, List.cons_append, List.nil_append]; rfl) ?_
          repeat (go_big_quiet_step (fail))
          refine wpQuiet_nil ?_
          refine wpS_addrI (i := 2) (d := some 73) (b := ob) (n := 16) (j := k) rfl (by rfl) rfl rfl rfl (by omega) rfl ?_
          simp only [Act.put, List.setIfInBounds_toArray, List.set_cons_succ, List.set_cons_zero]
          refine wpS_load1 (i := 3) (d := some 74) (u := .int .i64 x) rfl (by rfl) rfl rfl ((HM43.out.cellL 2 rfl k).trans (by rw [List.getElem?_map, hx]; rfl)) Try.underlying3 rfl rfl ?_
          simp only [Act.put, List.setIfInBounds_toArray, List.set_cons_succ, List.set_cons_zero]
          refine wpS_this [4] rfl (by kernel_rfl) (by simp only [pickL, nthL, List.cons_append, List.nil_append]; rfl) ?_
          repeat (go_big_quiet_step (fail))
          refine wpQuiet_nil ?_
          refine wpS_nil ?_
          refine then_normal ?_
          refine wp_cond_true rfl ?_
          refine wp_exit ?_
          refine then_exit (block_exit ?_)
          refine then_normal ?_
          refine wp_region_N [(0, 1), (1, 1)] (by kernel_rfl) ?_
          refine wpS_this [0, 1] rfl (by kernel_rfl) (by simp only [pickL, nthL, List.cons_append, List.nil_append]; rfl) ?_
          repeat (go_big_quiet_step (fail))
          refine wpQuiet_nil ?_
          refine wpS_nil ?_
          refine then_normal ?_
          refine ⟨by kernel_rfl, ?_⟩
          have hnn : atL (gB now M k).1 k ≠ -1 := by rw [hO2.out, atL_of hx]; omega
          refine ⟨16 - (k + 1), by omega, k + 1, rfl, rfl, hk1, ?_⟩
          rw [gB_kept hnn, hO2.out, hL3.out]
          exact (Mem.only (M := [_, _, _, _]) HM43.out [0, 0, 0, 0] rfl)
      · have hk16 : k = 16 := by have : ¬ (k : Int) < 16 := (by simpa using h44); omega
        clear h44
        subst hk16
        refine wp_exit ?_
        refine then_exit (then_exit (block_exit ?_))
        refine then_normal ?_
        refine wp_seq ?_
        refine wp_region_N [(0, 1), (1, 1)] (by kernel_rfl) ?_
        refine wpS_this [0, 1] rfl (by kernel_rfl) (by simp only [pickL, nthL, List.cons_append, List.nil_append]; rfl) ?_
        repeat (go_big_quiet_step (fail))
        refine wpQuiet_nil ?_
        refine wpS_nil ?_
        refine then_normal ?_
        refine wp_ret ?_
        refine bodyPost_ret (results_tmp rfl _ _ _) rfl ?_
        have hfin := HM43.out
        rw [← hO2.out, gB_end hne.out] at hfin
        exact doesU_ret (post := fun u => [rowT elemI u (assignOf now (peersOf ms (-1))), R]) (by rw [hMe.out]; exact ints_row (assigned hok.out hne.out).len (by omega) (Mem.only (M := [_, _]) hfin [2, 0] rfl)) rfl

end Go.Proofs.Ytagpbmgeikjnjaa
