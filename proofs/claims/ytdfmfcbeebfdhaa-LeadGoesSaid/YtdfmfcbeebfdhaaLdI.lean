/- Lead: LeadGoes. -/
import Derived.Test.YtdfmfcbeebfdhaaLdA
namespace Go.Proofs.Ytdfmfcbeebfdhaa
open Go Go.RowKit Go.BigFrame

set_option maxHeartbeats 4000000 in
set_option maxRecDepth 100000 in
theorem goes_d (W0 : World) (n m : Int) (vf : Value) (sf : List Int) (hf : SrcE elemI W0 vf sf) (lf : sf.length ≤ 140737488351232) : Does Try.prog 4 #[.int .i64 n, .int .i64 m, vf] [oldT W0] (.bool true) [oldT W0] := by
  intro w H hp
  have HM0 := Lib.hid (mem_refl hp)
  clear hp
  obtain ⟨pf, cf, rfl⟩ := row_form hf
  go_enter Try.func4, Try.ntmps4
  refine wp_seq ?_
  refine wp_region_N [(0, 1)] (by kernel_rfl) ?_
  refine wpS_this [0] rfl (by kernel_rfl) (by simp only [pickL, nthL, List.cons_append, List.nil_append]; rfl) ?_
  repeat (go_big_quiet_step (fail))
  refine wpQuiet_nil ?_
  refine wpS_nil ?_
  refine then_normal ?_
  refine wp_seq ?_
  obtain ⟨n0, hn0, hmn'⟩ := mod_small 8 (by decide) (by decide) n
  obtain ⟨m0, hm0, hmm'⟩ := mod_small 8 (by decide) (by decide) m
  have hn8 : n0 < 8 := by omega
  have hm8 : m0 < 8 := by omega
  clear hn0 hm0
  have hmn := Lib.hid hmn'
  clear hmn'
  have hmm := Lib.hid hmm'
  clear hmm'
  refine wp_region_N [(0, 1), (1, 1), (2, 1), (3, 1), (4, 1), (5, 1), (6, 1), (7, 1), (8, 1), (9, 1)] (by kernel_rfl) ?_
  refine wpS_this [0, 1, 2] rfl (by kernel_rfl) (by simp only [pickL, nthL, List.cons_append, List.nil_append]; rfl) ?_
  repeat (go_big_quiet_step (fail))
  refine wpQuiet_nil ?_
  refine wpS_this [3] rfl (by kernel_rfl) (by simp only [pickL, nthL, List.cons_append, List.nil_append]; rfl) ?_
  repeat (go_big_quiet_step (fail))
  refine wpQuiet_nil ?_
  rw [hmn.out]
  refine wpS_this [4, 5, 6] rfl (by kernel_rfl) (by simp only [pickL, nthL, List.cons_append, List.nil_append]; rfl) ?_
  repeat (go_big_quiet_step (fail))
  refine wpQuiet_nil ?_
  refine wpS_this [7] rfl (by kernel_rfl) (by simp only [pickL, nthL, List.cons_append, List.nil_append]; rfl) ?_
  repeat (go_big_quiet_step (fail))
  refine wpQuiet_nil ?_
  rw [hmm.out]
  refine wpS_this [8, 9] rfl (by kernel_rfl) (by simp only [pickL, nthL, List.cons_append, List.nil_append]; rfl) ?_
  repeat (go_big_quiet_step (fail))
  refine wpQuiet_nil ?_
  refine wpS_nil ?_
  refine then_normal ?_
  refine wp_seq ?_
  refine wp_seq ?_
  by_cases hne : n0 = m0
  · have g1 : (n0 == m0) = true := beq_iff_eq.2 hne
    have g1' : ((n0 : Int) == (m0 : Int)) = true := beq_iff_eq.2 (by omega)
    clear hne
    refine wp_region_N [(0, 1), (1, 1), (2, 1)] (by kernel_rfl) ?_
    refine wpS_this [0, 1, 2] rfl (by kernel_rfl) (by simp only [pickL, nthL, List.cons_append, List.nil_append]; rfl) ?_
    repeat (go_big_quiet_step (fail))
    refine wpQuiet_nil ?_
    refine wpS_nil ?_
    refine then_normal ?_
    refine wp_cond_true rfl ?_
    refine wp_seq ?_
    refine wp_region_N [(0, 3), (1, 1)] (by kernel_rfl) ?_
    refine wpS_does0 (i := 0) (d := some 29) (rem := [_]) (out := [_]) rfl (by rfl) rfl Try.call9 (lawake_d)  HM0.out [] rfl covS_nil rfl rfl ?_
    rintro W2 hm1 -
    have HM3 := Lib.hid hm1
    clear hm1
    simp only [Act.put, List.setIfInBounds_toArray, List.set_cons_succ, List.set_cons_zero]
    refine wpS_this [1] rfl (by kernel_rfl) (by simp only [pickL, nthL, List.cons_append, List.nil_append]; rfl) ?_
    repeat (go_big_quiet_step (fail))
    refine wpQuiet_nil ?_
    refine wpS_nil ?_
    refine then_normal ?_
    refine wp_ret ?_
    refine then_ret ?_
    refine bodyPost_ret (results_tmp rfl _ _ _) rfl ?_
    exact does_ret (Mem.only (M := [_]) HM3.out [0] rfl) rfl rfl
  · have g1 : (n0 == m0) = false := beq_eq_false_iff_ne.2 hne
    have g1' : ((n0 : Int) == (m0 : Int)) = false := beq_eq_false_iff_ne.2 (by omega)
    refine wp_region_N [(0, 1), (1, 1), (2, 1)] (by kernel_rfl) ?_
    refine wpS_this [0, 1, 2] rfl (by kernel_rfl) (by simp only [pickL, nthL, List.cons_append, List.nil_append]; rfl) ?_
    repeat (go_big_quiet_step (fail))
    refine wpQuiet_nil ?_
    refine wpS_nil ?_
    refine then_normal ?_
    refine wp_cond_false rfl ?_
    refine wp_skip ?_
    refine then_normal ?_
    refine wp_seq ?_
    skip
    · obtain ⟨s, hst', hgs', hsa⟩ := goes_stage hn8 hm8 hne
      have ls : s.p.2.2.length ≤ 1000 := by rw [hgs'.p]; simp
      have hr1 := Lib.hid (go_rises hn8 hm8 hne).1
      have hr2 := Lib.hid (go_rises hn8 hm8 hne).2
      have hmv : Hid ((movR s n0).length = 16) := Lib.hid (hgs'.mov_all hsa)
      have gsn : (s.s n0 != 3) = false := by rw [bne_eq_false_iff_eq]; exact hgs'.sn
      have hns : Hid (settledR s = false) := Lib.hid hgs'.not_settled
      clear hsa
      have hst := Lib.hid hst'
      clear hst'
      have hgs := Lib.hid hgs'
      clear hgs'
      refine wp_region_N [(0, 1), (1, 3), (2, 1), (3, 1), (4, 1), (5, 3), (6, 3), (7, 1)] (by kernel_rfl) ?_
      refine wpS_this [0] rfl (by kernel_rfl) (by simp only [pickL, nthL, List.cons_append, List.nil_append]; rfl) ?_
      repeat (go_big_quiet_step (fail))
      refine wpQuiet_nil ?_
      refine wpS_doesU1 (i := 1) (d := some 32) (rem := [_]) rfl (by rfl) rfl Try.call19 (gfirst_d (n0 : Int) (oneR n0) true (firstR_nat hn8)) rfl HM0.out [] rfl covS_nil (fun _ => rfl) rfl ?_
      rintro u6 W5 hm4 -
      obtain ⟨px, cx, rfl, hm4q⟩ := Mem.ringE (n := 0) rfl hm4
      clear hm4
      have HM7 := Lib.hid hm4q
      clear hm4q
      simp only [Act.put, List.setIfInBounds_toArray, List.set_cons_succ, List.set_cons_zero]
      refine wpS_this [2, 3, 4] rfl (by kernel_rfl) (by simp only [pickL, nthL, List.cons_append, List.nil_append]; rfl) ?_
      repeat (go_big_quiet_step (fail))
      refine wpQuiet_nil ?_
      refine wpS_alloc (i := 5) (dd := 7) (z := rgV noR (.slice none 0 0)) (cs := (rgC noR (.slice none 0 0)).toArray) rfl (by rfl) rfl (by kernel_rfl) rfl HM7.out covS_nil rfl ?_
      rintro b10 W9 hm8 -
      have HM11 := Lib.hid hm8
      clear hm8
      simp only [Act.put, List.setIfInBounds_toArray, List.set_cons_succ, List.set_cons_zero]
      refine wpS_storeA (i := 6) (L2 := [_, _]) (cs' := rgC ((oneR n0)) (.slice px 0 cx)) rfl (by rfl) rfl rfl rfl (by kernel_rfl) (rgC_one _ _ _) HM11.out 0 rfl rfl (by kernel_rfl) (by kernel_rfl) covS_nil rfl ?_
      rintro W13 hm12 -
      have HM14 := Lib.hid hm12
      clear hm12
      refine wpS_this [7] rfl (by kernel_rfl) (by simp only [pickL, nthL, List.cons_append, List.nil_append]; rfl) ?_
      repeat (go_big_quiet_step (fail))
      refine wpQuiet_nil ?_
      refine wpS_nil ?_
      refine then_normal ?_
      refine wp_seq ?_
      refine wp_region_N [(0, 1), (1, 1), (2, 3), (3, 1), (4, 1), (5, 1), (6, 3), (7, 1)] (by kernel_rfl) ?_
      refine wpS_loadA (i := 0) (d := some 36) (cells := rgC ((oneR n0)) (.slice px 0 cx)) rfl (by rfl) rfl rfl (HM14.out.sub 0 rfl (fun k u h => by rw [Nat.zero_add]; exact h)) Try.underlying30 rfl (by kernel_rfl) rfl ?_
      simp only [Act.put, List.setIfInBounds_toArray, List.set_cons_succ, List.set_cons_zero]
      refine wpS_this [1] rfl (by kernel_rfl) (by simp only [pickL, nthL, List.cons_append, List.nil_append]; rfl) ?_
      repeat (go_big_quiet_step (fail))
      refine wpQuiet_nil ?_
      refine wpS_doesU3 (i := 2) (d := some 38) (rem := [_, _]) rfl (by rfl) rfl Try.call20 (grise_d (rowT elemI _ _) _ (oneR n0) rowT_reads (Nat.zero_le _) (m0 : Int) 2 ⟨upd (oneR n0).s m0 2, (0, 0, []), (oneR n0).e⟩ 0 hr1.out) rfl rfl rfl HM14.out [1] rfl covS_nil (fun _ => rfl) rfl ?_
      rintro u17 W16 hm15 -
      obtain ⟨py, cy, rfl, hm15q⟩ := Mem.ringE (n := 0) rfl hm15
      clear hm15
      have HM18 := Lib.hid hm15q
      clear hm15q
      simp only [Act.put, List.setIfInBounds_toArray, List.set_cons_succ, List.set_cons_zero]
      refine wpS_this [3, 4, 5] rfl (by kernel_rfl) (by simp only [pickL, nthL, List.cons_append, List.nil_append]; rfl) ?_
      repeat (go_big_quiet_step (fail))
      refine wpQuiet_nil ?_
      refine wpS_storeA (i := 6) (L2 := [_, _, _]) (cs' := rgC (⟨upd (oneR n0).s m0 2, (0, 0, []), (oneR n0).e⟩) (.slice py 0 cy)) rfl (by rfl) rfl rfl rfl (by kernel_rfl) (rgC_one _ _ _) HM18.out 2 rfl rfl (by kernel_rfl) (by kernel_rfl) covS_nil rfl ?_
      rintro W20 hm19 -
      have HM21 := Lib.hid hm19
      clear hm19
      refine wpS_this [7] rfl (by kernel_rfl) (by simp only [pickL, nthL, List.cons_append, List.nil_append]; rfl) ?_
      repeat (go_big_quiet_step (fail))
      refine wpQuiet_nil ?_
      refine wpS_nil ?_
      refine then_normal ?_
      refine wp_seq ?_
      refine wp_region_N [(0, 1), (1, 1), (2, 3), (3, 1), (4, 1), (5, 1), (6, 3), (7, 1)] (by kernel_rfl) ?_
      refine wpS_loadA (i := 0) (d := some 42) (cells := rgC (⟨upd (oneR n0).s m0 2, (0, 0, []), (oneR n0).e⟩) (.slice py 0 cy)) rfl (by rfl) rfl rfl (HM21.out.sub 0 rfl (fun k u h => by rw [Nat.zero_add]; exact h)) Try.underlying30 rfl (by kernel_rfl) rfl ?_
      simp only [Act.put, List.setIfInBounds_toArray, List.set_cons_succ, List.set_cons_zero]
      refine wpS_this [1] rfl (by kernel_rfl) (by simp only [pickL, nthL, List.cons_append, List.nil_append]; rfl) ?_
      repeat (go_big_quiet_step (fail))
      refine wpQuiet_nil ?_
      refine wpS_doesU3 (i := 2) (d := some 44) (rem := [_, _, _]) rfl (by rfl) rfl Try.call20 (grise_d (rowT elemI _ _) _ ⟨upd (oneR n0).s m0 2, (0, 0, []), (oneR n0).e⟩ rowT_reads (Nat.zero_le _) (n0 : Int) 3 (goR n0 m0) 0 hr2.out) rfl rfl rfl HM21.out [1] rfl covS_nil (fun _ => rfl) rfl ?_
      rintro u24 W23 hm22 -
      obtain ⟨pq, cq, rfl, hm22q⟩ := Mem.ringE (n := 0) rfl hm22
      clear hm22
      have HM25 := Lib.hid hm22q
      clear hm22q
      simp only [Act.put, List.setIfInBounds_toArray, List.set_cons_succ, List.set_cons_zero]
      refine wpS_this [3, 4, 5] rfl (by kernel_rfl) (by simp only [pickL, nthL, List.cons_append, List.nil_append]; rfl) ?_
      repeat (go_big_quiet_step (fail))
      refine wpQuiet_nil ?_
      refine wpS_storeA (i := 6) (L2 := [_, _, _, _]) (cs' := rgC ((goR n0 m0)) (.slice pq 0 cq)) rfl (by rfl) rfl rfl rfl (by kernel_rfl) (rgC_one _ _ _) HM25.out 2 rfl rfl (by kernel_rfl) (by kernel_rfl) covS_nil rfl ?_
      rintro W27 hm26 -
      have HM28 := Lib.hid hm26
      clear hm26
      refine wpS_this [7] rfl (by kernel_rfl) (by simp only [pickL, nthL, List.cons_append, List.nil_append]; rfl) ?_
      repeat (go_big_quiet_step (fail))
      refine wpQuiet_nil ?_
      refine wpS_nil ?_
      refine then_normal ?_
      refine wp_seq ?_
      by_cases hlt : n0 < m0
      · have hst1 : Hid (stageR (goR n0 m0) (n0 : Int) [(n0 : Int), (m0 : Int)] = (s, 0)) := Lib.hid (by rw [← hst.out, Nat.min_eq_left (by omega)])
        have gl : decide ((m0 : Int) < (n0 : Int)) = false := decide_eq_false (by omega)
        have gln : decide (m0 < n0) = false := decide_eq_false (by omega)
        refine wp_region_N [(0, 1), (1, 1), (2, 1), (3, 1), (4, 3), (5, 3), (6, 1), (7, 1), (8, 1), (9, 3), (10, 3), (11, 1)] (by kernel_rfl) ?_
        refine wpS_loadA (i := 0) (d := some 48) (cells := rgC ((goR n0 m0)) (.slice pq 0 cq)) rfl (by rfl) rfl rfl (HM28.out.sub 0 rfl (fun k u h => by rw [Nat.zero_add]; exact h)) Try.underlying30 rfl (by kernel_rfl) rfl ?_
        simp only [Act.put, List.setIfInBounds_toArray, List.set_cons_succ, List.set_cons_zero]
        refine wpS_this [1, 2, 3] rfl (by kernel_rfl) (by simp only [pickL, nthL, List.cons_append, List.nil_append]; rfl) ?_
        repeat (go_big_quiet_step (fail))
        refine wpQuiet_nil ?_
        refine wpS_buildN elemI (i := 4) (dd := 52) (n := 2) (xs := [(n0 : Int), (m0 : Int)]) (cs := #[.int .i64 (n0 : Int), .int .i64 (m0 : Int)]) rfl (by rfl) (fun _ => by kernel_rfl) rfl rfl HM28.out covS_nil rfl ?_
        rintro b31 W32 hm33 -
        have HM34 := Lib.hid hm33
        clear hm33
        simp only [Act.put, List.setIfInBounds_toArray, List.set_cons_succ, List.set_cons_zero]
        refine wpS_doesU3 (i := 5) (d := some 53) (rem := [_, _, _, _]) rfl (by rfl) rfl Try.call10 (DoesU.ofList (gstage_d (listT [_, _]) _ (goR n0 m0) (srcL 0 rfl rowT_reads) (Nat.zero_le _) (n0 : Int) _ [(n0 : Int), (m0 : Int)] (rowL 1 rfl rowOwn) (Nat.le_of_ble_eq_true rfl) s 0 hst1.out)) rfl rfl rfl HM34.out [2, 0] rfl covS_nil (fun _ => rfl) rfl ?_
        rintro u37 W36 hm35 -
        obtain ⟨ps, cs, rfl, hm35q⟩ := Mem.ringE rfl hm35
        clear hm35
        have HM38 := Lib.hid hm35q
        clear hm35q
        simp only [Act.put, List.setIfInBounds_toArray, List.set_cons_succ, List.set_cons_zero]
        refine wpS_this [6, 7, 8] rfl (by kernel_rfl) (by simp only [pickL, nthL, List.cons_append, List.nil_append]; rfl) ?_
        repeat (go_big_quiet_step (fail))
        refine wpQuiet_nil ?_
        refine wpS_alloc (i := 9) (dd := 11) (z := rgV noR (.slice none 0 0)) (cs := (rgC noR (.slice none 0 0)).toArray) rfl (by rfl) rfl (by kernel_rfl) rfl HM38.out covS_nil rfl ?_
        rintro b41 W40 hm39 -
        have HM42 := Lib.hid hm39
        clear hm39
        simp only [Act.put, List.setIfInBounds_toArray, List.set_cons_succ, List.set_cons_zero]
        refine wpS_storeA (i := 10) (L2 := [_, _, _, _, _, _, _]) (cs' := rgC (s) (.slice ps s.p.2.2.length cs)) rfl (by rfl) rfl rfl rfl (by kernel_rfl) (rgC_one _ _ _) HM42.out 0 rfl rfl (by kernel_rfl) (by kernel_rfl) covS_nil rfl ?_
        rintro W44 hm43 -
        have HM45 := Lib.hid hm43
        clear hm43
        refine wpS_this [11] rfl (by kernel_rfl) (by simp only [pickL, nthL, List.cons_append, List.nil_append]; rfl) ?_
        repeat (go_big_quiet_step (fail))
        refine wpQuiet_nil ?_
        refine wpS_nil ?_
        refine then_normal ?_
        refine wp_seq ?_
        refine wp_seq ?_
        refine wp_region_N [(0, 1), (1, 1), (2, 1)] (by kernel_rfl) ?_
        refine wpS_this [0, 1, 2] rfl (by kernel_rfl) (by simp only [pickL, nthL, List.cons_append, List.nil_append]; rfl) ?_
        repeat (go_big_quiet_step (fail))
        refine wpQuiet_nil ?_
        refine wpS_nil ?_
        refine then_normal ?_
        refine wp_cond_false rfl ?_
        refine wp_skip ?_
        refine then_normal ?_
        refine wp_seq ?_
        refine wp_seq ?_
        refine wp_region_N [(0, 1), (1, 1), (2, 1), (3, 1), (4, 1), (5, 1), (6, 1), (7, 1), (8, 1), (9, 1), (10, 1), (11, 1), (12, 1), (13, 1), (14, 1), (15, 1), (16, 1), (17, 3), (18, 1), (19, 1), (20, 1), (21, 1), (22, 1), (23, 1), (24, 1), (25, 1), (26, 1), (27, 1), (28, 1), (29, 1), (30, 3), (31, 1)] (by kernel_rfl) ?_
        refine wpS_this [0, 1, 2, 3, 4, 5, 6, 7, 8, 9, 10, 11, 12, 13, 14] rfl (by kernel_rfl) (by simp only [pickL, nthL, List.cons_append, List.nil_append]; rfl) ?_
        repeat (go_big_quiet_step (fail))
        refine wpQuiet_nil ?_
        refine wpS_loadA (i := 15) (d := some 83) (cells := rgC (s) (.slice ps s.p.2.2.length cs)) rfl (by rfl) rfl rfl (HM45.out.sub 0 rfl (fun k u h => by rw [Nat.zero_add]; exact h)) Try.underlying30 rfl (by kernel_rfl) rfl ?_
        simp only [Act.put, List.setIfInBounds_toArray, List.set_cons_succ, List.set_cons_zero]
        refine wpS_this [16] rfl (by kernel_rfl) (by simp only [pickL, nthL, List.cons_append, List.nil_append]; rfl) ?_
        repeat (go_big_quiet_step (fail))
        refine wpQuiet_nil ?_
        refine wpS_doesU2 (i := 17) (d := some 85) (rem := [_, _, _, _, _, _, _]) rfl (by rfl) rfl Try.call21 (gmov_d (rowT elemI _ _) _ s rowT_reads ls (n0 : Int)) rfl rfl HM45.out [1] rfl covS_nil (fun _ => rfl) rfl ?_
        rintro u48 W47 hm46 -
        obtain ⟨pm, cm, rfl⟩ := row_formN hmv.out (Mem.src hm46 0 rfl rowT_reads)
        have HM49 := Lib.hid hm46
        clear hm46
        simp only [Act.put, List.setIfInBounds_toArray, List.set_cons_succ, List.set_cons_zero]
        refine wpS_this [18, 19, 20, 21, 22, 23] rfl (by kernel_rfl) (by simp only [pickL, nthL, List.cons_append, List.nil_append]; rfl) ?_
        repeat (go_big_quiet_step (fail))
        refine wpQuiet_nil ?_
        refine wpS_read (i := 24) (d := some 92) rfl (by rfl) (run_addrSt (hn8) rfl rfl rfl) rfl ?_
        simp only [Act.put, List.setIfInBounds_toArray, List.set_cons_succ, List.set_cons_zero]
        refine wpS_load1 (i := 25) (d := some 93) (u := _) rfl (by rfl) rfl rfl (HM49.out.sub1 2 rfl (rgC_s (hn8))) Try.underlying3 rfl rfl ?_
        simp only [Act.put, List.setIfInBounds_toArray, List.set_cons_succ, List.set_cons_zero]
        refine wpS_this [26, 27, 28] rfl (by kernel_rfl) (by simp only [pickL, nthL, List.cons_append, List.nil_append]; rfl) ?_
        repeat (go_big_quiet_step (fail))
        refine wpQuiet_nil ?_
        refine wpS_loadA (i := 29) (d := some 97) (cells := rgC (s) (.slice ps s.p.2.2.length cs)) rfl (by rfl) rfl rfl (HM49.out.sub 2 rfl (fun k u h => by rw [Nat.zero_add]; exact h)) Try.underlying30 rfl (by kernel_rfl) rfl ?_
        simp only [Act.put, List.setIfInBounds_toArray, List.set_cons_succ, List.set_cons_zero]
        refine wpS_does1 (i := 30) (d := some 98) (rem := [_, _, _, _, _, _, _, _]) (out := [_, _, _, _, _, _, _, _, _]) rfl (by rfl) rfl Try.call22 (settled_d (rowT elemI _ _) _ s rowT_reads ls) rfl HM49.out [1] rfl covS_nil rfl rfl ?_
        rintro W51 hm50 -
        rw [hns.out]
        have HM52 := Lib.hid hm50
        clear hm50
        simp only [Act.put, List.setIfInBounds_toArray, List.set_cons_succ, List.set_cons_zero]
        refine wpS_this [31] rfl (by kernel_rfl) (by simp only [pickL, nthL, List.cons_append, List.nil_append]; rfl) ?_
        repeat (go_big_quiet_step (fail))
        refine wpQuiet_nil ?_
        refine wpS_nil ?_
        refine then_normal ?_
        refine wp_cond_false rfl ?_
        refine wp_skip ?_
        refine then_normal ?_
        refine wp_seq ?_
        refine wp_seq ?_
        refine wp_region_N [(0, 1), (1, 1), (2, 1)] (by kernel_rfl) ?_
        refine wpS_this [0, 1, 2] rfl (by kernel_rfl) (by simp only [pickL, nthL, List.cons_append, List.nil_append]; rfl) ?_
        repeat (go_big_quiet_step (fail))
        refine wpQuiet_nil ?_
        refine wpS_nil ?_
        refine then_normal ?_
        refine wp_block ?_
        refine wp_loop_F [14, 102, 103, 104, 105, 106, 107, 108, 109, 110, 111, 112, 113, 114, 115] (fun n vs W' => ∃ (k : Nat) (e : Nat → En), n = sf.length - k ∧ vs 102 = .int .i64 (k : Int) ∧ k ≤ sf.length ∧ GoesS n0 m0 ⟨s.s, s.p, e⟩ ∧ Mem [boxT b41 (.cells (rgC ⟨s.s, s.p, e⟩ (.slice ps s.p.2.2.length cs)).toArray 30 (0, 0)), rowT elemI (.slice ps s.p.2.2.length cs) s.p.2.2, oldT W0] H w W') (n0 := sf.length) ?_ ?_
        · exact ⟨0, s.e, rfl, rfl, Nat.zero_le _, hgs.out, (Mem.only (M := [_, _, _]) HM52.out [2, 0, 6] rfl)⟩
        rintro n vs W' ⟨k, e, rfl, e102, hk, hge', hm⟩
        simp only [putAll, List.map_cons, List.map_nil, Act.put, List.setIfInBounds_toArray, List.set_cons_succ, List.set_cons_zero]
        rw [e102]
        clear e102
        have hge := Lib.hid hge'
        clear hge'
        have HM53 := Lib.hid hm
        clear hm
        refine wp_seq ?_
        refine wp_region_N [(0, 1)] (by kernel_rfl) ?_
        refine wpS_this [0] rfl (by kernel_rfl) (by simp only [pickL, nthL, List.cons_append, List.nil_append]; rfl) ?_
        repeat (go_big_quiet_step (fail))
        refine wpQuiet_nil ?_
        refine wpS_nil ?_
        refine then_normal ?_
        refine wp_seq ?_
        refine wp_cond_split rfl (fun h54 => ?_) (fun h54 => ?_)
        · have hk1 : k + 1 ≤ sf.length := by have : (k : Int) < ((sf.length : Nat) : Int) := (by simpa using h54); omega
          clear h54
          obtain ⟨z, hx'⟩ : ∃ y, sf[k]? = some y := ⟨_, List.getElem?_eq_getElem (hk1)⟩
          have hx := Lib.hid hx'
          clear hx'
          refine wp_skip ?_
          refine then_normal ?_
          refine wp_seq ?_
          refine wp_block ?_
          refine wp_seq ?_
          refine wp_region_N [(0, 1), (1, 1), (2, 1)] (by kernel_rfl) ?_
          refine wpS_index (E := elemI) (i := 0) (d := some 104) rfl (by rfl) rfl rfl rfl (HM53.out.row 2 rfl (srcOld hf).row) (hx.out) rfl ?_
          intro eb55 eo56 hc57
          simp only [Act.put, List.setIfInBounds_toArray, List.set_cons_succ, List.set_cons_zero]
          refine wpS_load1 (i := 1) (d := some 105) (u := .int .i64 z) rfl (by rfl) rfl rfl (hc57 0 _ rfl) Try.underlying3 rfl rfl ?_
          simp only [Act.put, List.setIfInBounds_toArray, List.set_cons_succ, List.set_cons_zero]
          refine wpS_this [2] rfl (by kernel_rfl) (by simp only [pickL, nthL, List.cons_append, List.nil_append]; rfl) ?_
          repeat (go_big_quiet_step (fail))
          refine wpQuiet_nil ?_
          refine wpS_nil ?_
          refine then_normal ?_
          refine wp_seq ?_
          obtain ⟨q, hq16', hmq'⟩ := mod_small 16 (by decide) (by decide) z
          have hq16 : q < 16 := by omega
          clear hq16'
          have hmq := Lib.hid hmq'
          clear hmq'
          refine wp_region_N [(0, 1), (1, 1), (2, 1), (3, 1), (4, 1)] (by kernel_rfl) ?_
          refine wpS_this [0, 1, 2] rfl (by kernel_rfl) (by simp only [pickL, nthL, List.cons_append, List.nil_append]; rfl) ?_
          repeat (go_big_quiet_step (fail))
          refine wpQuiet_nil ?_
          refine wpS_this [3] rfl (by kernel_rfl) (by simp only [pickL, nthL, List.cons_append, List.nil_append]; rfl) ?_
          repeat (go_big_quiet_step (fail))
          refine wpQuiet_nil ?_
          rw [hmq.out]
          refine wpS_this [4] rfl (by kernel_rfl) (by simp only [pickL, nthL, List.cons_append, List.nil_append]; rfl) ?_
          repeat (go_big_quiet_step (fail))
          refine wpQuiet_nil ?_
          refine wpS_nil ?_
          refine then_normal ?_
          refine wp_region_N [(0, 1), (1, 1), (2, 1), (3, 1), (4, 1), (5, 3)] (by kernel_rfl) ?_
          refine wpS_this [0, 1, 2, 3] rfl (by kernel_rfl) (by simp only [pickL, nthL, List.cons_append, List.nil_append]; rfl) ?_
          repeat (go_big_quiet_step (fail))
          refine wpQuiet_nil ?_
          refine wpS_read (i := 4) (d := some 114) rfl (by rfl) (run_addrEnt (hq16) rfl rfl rfl) rfl ?_
          simp only [Act.put, List.setIfInBounds_toArray, List.set_cons_succ, List.set_cons_zero]
          refine wpS_storeA (i := 5) (L2 := [_, _]) (cs' := rgC (⟨s.s, s.p, upd e q (2, (m0 : Int))⟩) (.slice ps s.p.2.2.length cs)) rfl (by rfl) rfl rfl rfl (by kernel_rfl) (by rfl) HM53.out 0 rfl rfl (Nat.ble_eq_true_of_le (by rw [rgC_len]; show _ + 2 ≤ _; have := hq16; omega)) (rgC_setE (hq16) ((2, (m0 : Int)))) covS_nil rfl ?_
          rintro W59 hm58 -
          have HM60 := Lib.hid hm58
          clear hm58
          refine wpS_nil ?_
          refine block_normal ?_
          refine then_normal ?_
          refine wp_region_N [(0, 1), (1, 1)] (by kernel_rfl) ?_
          refine wpS_this [0, 1] rfl (by kernel_rfl) (by simp only [pickL, nthL, List.cons_append, List.nil_append]; rfl) ?_
          repeat (go_big_quiet_step (fail))
          refine wpQuiet_nil ?_
          refine wpS_nil ?_
          refine then_normal ?_
          refine ⟨by kernel_rfl, ?_⟩
          exact ⟨sf.length - (k + 1), by omega, k + 1, upd e q (2, (m0 : Int)), rfl, rfl, hk1, hge.out.set, (Mem.only (M := [_, _, _]) HM60.out [0, 0, 0] rfl)⟩
        · clear h54
          refine wp_exit ?_
          refine then_exit (then_exit (block_exit ?_))
          refine then_normal ?_
          refine wp_seq ?_
          obtain ⟨lv, hlv'⟩ : ∃ y, (movR ⟨s.s, s.p, e⟩ n0).length = y := ⟨_, rfl⟩
          have hlv := Lib.hid hlv'
          clear hlv'
          refine wp_region_N [(0, 1), (1, 1), (2, 3), (3, 1), (4, 1)] (by kernel_rfl) ?_
          refine wpS_loadA (i := 0) (d := some 116) (cells := rgC (⟨s.s, s.p, e⟩) (.slice ps s.p.2.2.length cs)) rfl (by rfl) rfl rfl (HM53.out.sub 0 rfl (fun k u h => by rw [Nat.zero_add]; exact h)) Try.underlying30 rfl (by kernel_rfl) rfl ?_
          simp only [Act.put, List.setIfInBounds_toArray, List.set_cons_succ, List.set_cons_zero]
          refine wpS_this [1] rfl (by kernel_rfl) (by simp only [pickL, nthL, List.cons_append, List.nil_append]; rfl) ?_
          repeat (go_big_quiet_step (fail))
          refine wpQuiet_nil ?_
          refine wpS_doesU2 (i := 2) (d := some 118) (rem := [_, _]) rfl (by rfl) rfl Try.call21 (gmov_d (rowT elemI _ _) _ ⟨s.s, s.p, e⟩ rowT_reads ls (n0 : Int)) rfl rfl HM53.out [1] rfl covS_nil (fun _ => rfl) rfl ?_
          rintro u63 W62 hm61 -
          obtain ⟨pw, cw, rfl⟩ := row_formN hlv.out (Mem.src hm61 0 rfl rowT_reads)
          have HM64 := Lib.hid hm61
          clear hm61
          simp only [Act.put, List.setIfInBounds_toArray, List.set_cons_succ, List.set_cons_zero]
          refine wpS_this [3, 4] rfl (by kernel_rfl) (by simp only [pickL, nthL, List.cons_append, List.nil_append]; rfl) ?_
          repeat (go_big_quiet_step (fail))
          refine wpQuiet_nil ?_
          refine wpS_nil ?_
          refine then_normal ?_
          refine wp_seq ?_
          by_cases hl0 : lv = 0
          · have hgo := hge.out.goes (by rw [hlv.out]; exact hl0)
            obtain ⟨t, ht', hts, hset', htp⟩ := hgo
            have lt : t.p.2.2.length ≤ 1000 := by rw [htp]; exact ls
            have gts : (t.s n0 == 4) = true := beq_iff_eq.2 hts
            clear hts htp
            have ht := Lib.hid ht'
            clear ht'
            have hset := Lib.hid hset'
            clear hset'
            have gl0 : decide (0 < lv) = false := decide_eq_false (by omega)
            have gl0' : decide ((0 : Int) < (lv : Int)) = false := decide_eq_false (by omega)
            clear hl0
            have ht2 : Hid (stageR ⟨s.s, s.p, e⟩ (n0 : Int) [(n0 : Int), (m0 : Int)] = (t, 0)) := Lib.hid (by rw [← ht.out, Nat.min_eq_left (by omega)])
            refine wp_region_N [(0, 1), (1, 1), (2, 1), (3, 1), (4, 1), (5, 1), (6, 3), (7, 3), (8, 1), (9, 1), (10, 1), (11, 3), (12, 3), (13, 1)] (by kernel_rfl) ?_
            refine wpS_loadA (i := 0) (d := some 121) (cells := rgC (⟨s.s, s.p, e⟩) (.slice ps s.p.2.2.length cs)) rfl (by rfl) rfl rfl (HM64.out.sub 2 rfl (fun k u h => by rw [Nat.zero_add]; exact h)) Try.underlying30 rfl (by kernel_rfl) rfl ?_
            simp only [Act.put, List.setIfInBounds_toArray, List.set_cons_succ, List.set_cons_zero]
            refine wpS_this [1, 2, 3, 4, 5] rfl (by kernel_rfl) (by simp only [pickL, nthL, List.cons_append, List.nil_append]; rfl) ?_
            repeat (go_big_quiet_step (fail))
            refine wpQuiet_nil ?_
            refine wpS_buildN elemI (i := 6) (dd := 127) (n := 2) (xs := [(n0 : Int), (m0 : Int)]) (cs := #[.int .i64 (n0 : Int), .int .i64 (m0 : Int)]) rfl (by rfl) (fun _ => by kernel_rfl) rfl rfl HM64.out covS_nil rfl ?_
            rintro b67 W68 hm69 -
            have HM70 := Lib.hid hm69
            clear hm69
            simp only [Act.put, List.setIfInBounds_toArray, List.set_cons_succ, List.set_cons_zero]
            refine wpS_doesU3 (i := 7) (d := some 128) (rem := [_, _, _]) rfl (by rfl) rfl Try.call10 (DoesU.ofList (gstage_d (listT [_, _]) _ ⟨s.s, s.p, e⟩ (srcL 0 rfl rowT_reads) ls (n0 : Int) _ [(n0 : Int), (m0 : Int)] (rowL 1 rfl rowOwn) (Nat.le_of_ble_eq_true rfl) t 0 ht2.out)) rfl rfl rfl HM70.out [2, 0] rfl covS_nil (fun _ => rfl) rfl ?_
            rintro u73 W72 hm71 -
            obtain ⟨pt, ct, rfl, hm71q⟩ := Mem.ringE rfl hm71
            clear hm71
            have HM74 := Lib.hid hm71q
            clear hm71q
            simp only [Act.put, List.setIfInBounds_toArray, List.set_cons_succ, List.set_cons_zero]
            refine wpS_this [8, 9, 10] rfl (by kernel_rfl) (by simp only [pickL, nthL, List.cons_append, List.nil_append]; rfl) ?_
            repeat (go_big_quiet_step (fail))
            refine wpQuiet_nil ?_
            refine wpS_alloc (i := 11) (dd := 16) (z := rgV noR (.slice none 0 0)) (cs := (rgC noR (.slice none 0 0)).toArray) rfl (by rfl) rfl (by kernel_rfl) rfl HM74.out covS_nil rfl ?_
            rintro b77 W76 hm75 -
            have HM78 := Lib.hid hm75
            clear hm75
            simp only [Act.put, List.setIfInBounds_toArray, List.set_cons_succ, List.set_cons_zero]
            refine wpS_storeA (i := 12) (L2 := [_, _, _, _, _, _]) (cs' := rgC (t) (.slice pt t.p.2.2.length ct)) rfl (by rfl) rfl rfl rfl (by kernel_rfl) (rgC_one _ _ _) HM78.out 0 rfl rfl (by kernel_rfl) (by kernel_rfl) covS_nil rfl ?_
            rintro W80 hm79 -
            have HM81 := Lib.hid hm79
            clear hm79
            refine wpS_this [13] rfl (by kernel_rfl) (by simp only [pickL, nthL, List.cons_append, List.nil_append]; rfl) ?_
            repeat (go_big_quiet_step (fail))
            refine wpQuiet_nil ?_
            refine wpS_nil ?_
            refine then_normal ?_
            refine wp_seq ?_
            refine wp_seq ?_
            refine wp_region_N [(0, 1), (1, 1)] (by kernel_rfl) ?_
            refine wpS_this [0, 1] rfl (by kernel_rfl) (by simp only [pickL, nthL, List.cons_append, List.nil_append]; rfl) ?_
            repeat (go_big_quiet_step (fail))
            refine wpQuiet_nil ?_
            refine wpS_nil ?_
            refine then_normal ?_
            refine wp_cond_false rfl ?_
            refine wp_skip ?_
            refine then_normal ?_
            refine wp_seq ?_
            refine wp_region_N [(0, 1), (1, 1), (2, 1), (3, 1), (4, 1), (5, 1), (6, 1), (7, 1), (8, 1), (9, 1), (10, 1), (11, 3), (12, 1), (13, 1), (14, 3), (15, 1), (16, 1)] (by kernel_rfl) ?_
            refine wpS_this [0, 1, 2, 3, 4] rfl (by kernel_rfl) (by simp only [pickL, nthL, List.cons_append, List.nil_append]; rfl) ?_
            repeat (go_big_quiet_step (fail))
            refine wpQuiet_nil ?_
            refine wpS_read (i := 5) (d := some 143) rfl (by rfl) (run_addrSt (hn8) rfl rfl rfl) rfl ?_
            simp only [Act.put, List.setIfInBounds_toArray, List.set_cons_succ, List.set_cons_zero]
            refine wpS_load1 (i := 6) (d := some 144) (u := _) rfl (by rfl) rfl rfl (HM81.out.sub1 0 rfl (rgC_s (hn8))) Try.underlying3 rfl rfl ?_
            simp only [Act.put, List.setIfInBounds_toArray, List.set_cons_succ, List.set_cons_zero]
            refine wpS_this [7, 8, 9] rfl (by kernel_rfl) (by simp only [pickL, nthL, List.cons_append, List.nil_append]; rfl) ?_
            repeat (go_big_quiet_step (fail))
            refine wpQuiet_nil ?_
            refine wpS_loadA (i := 10) (d := some 148) (cells := rgC (t) (.slice pt t.p.2.2.length ct)) rfl (by rfl) rfl rfl (HM81.out.sub 0 rfl (fun k u h => by rw [Nat.zero_add]; exact h)) Try.underlying30 rfl (by kernel_rfl) rfl ?_
            simp only [Act.put, List.setIfInBounds_toArray, List.set_cons_succ, List.set_cons_zero]
            refine wpS_does1 (i := 11) (d := some 149) (rem := [_, _, _, _, _, _]) (out := [_, _, _, _, _, _, _]) rfl (by rfl) rfl Try.call22 (settled_d (rowT elemI _ _) _ t rowT_reads lt) rfl HM81.out [1] rfl covS_nil rfl rfl ?_
            rintro W83 hm82 -
            rw [hset.out]
            have HM84 := Lib.hid hm82
            clear hm82
            simp only [Act.put, List.setIfInBounds_toArray, List.set_cons_succ, List.set_cons_zero]
            refine wpS_this [12, 13] rfl (by kernel_rfl) (by simp only [pickL, nthL, List.cons_append, List.nil_append]; rfl) ?_
            repeat (go_big_quiet_step (fail))
            refine wpQuiet_nil ?_
            refine wpS_does0 (i := 14) (d := some 152) (rem := [_, _, _, _, _, _, _]) (out := [_, _, _, _, _, _, _]) rfl (by rfl) rfl Try.call9 (lawake_d)  HM84.out [] rfl covS_nil rfl rfl ?_
            rintro W86 hm85 -
            have HM87 := Lib.hid hm85
            clear hm85
            simp only [Act.put, List.setIfInBounds_toArray, List.set_cons_succ, List.set_cons_zero]
            refine wpS_this [15, 16] rfl (by kernel_rfl) (by simp only [pickL, nthL, List.cons_append, List.nil_append]; rfl) ?_
            repeat (go_big_quiet_step (fail))
            refine wpQuiet_nil ?_
            refine wpS_nil ?_
            refine then_normal ?_
            refine wp_ret ?_
            refine bodyPost_ret (results_tmp rfl _ _ _) rfl ?_
            exact does_ret (Mem.only (M := [_]) HM87.out [6] rfl) rfl rfl
          · have ht : Hid (stageR ⟨s.s, s.p, e⟩ ((min n0 m0 : Nat) : Int) [(n0 : Int), (m0 : Int)] = (noR, 9)) := Lib.hid (hge.out.stays (by rw [hlv.out]; exact hl0))
            have gl0 : decide (0 < lv) = true := decide_eq_true (by omega)
            have gl0' : decide ((0 : Int) < (lv : Int)) = true := decide_eq_true (by omega)
            clear hl0
            have ht2 : Hid (stageR ⟨s.s, s.p, e⟩ (n0 : Int) [(n0 : Int), (m0 : Int)] = (noR, 9)) := Lib.hid (by rw [← ht.out, Nat.min_eq_left (by omega)])
            refine wp_region_N [(0, 1), (1, 1), (2, 1), (3, 1), (4, 1), (5, 1), (6, 3), (7, 3), (8, 1), (9, 1), (10, 1), (11, 3), (12, 3), (13, 1)] (by kernel_rfl) ?_
            refine wpS_loadA (i := 0) (d := some 121) (cells := rgC (⟨s.s, s.p, e⟩) (.slice ps s.p.2.2.length cs)) rfl (by rfl) rfl rfl (HM64.out.sub 2 rfl (fun k u h => by rw [Nat.zero_add]; exact h)) Try.underlying30 rfl (by kernel_rfl) rfl ?_
            simp only [Act.put, List.setIfInBounds_toArray, List.set_cons_succ, List.set_cons_zero]
            refine wpS_this [1, 2, 3, 4, 5] rfl (by kernel_rfl) (by simp only [pickL, nthL, List.cons_append, List.nil_append]; rfl) ?_
            repeat (go_big_quiet_step (fail))
            refine wpQuiet_nil ?_
            refine wpS_buildN elemI (i := 6) (dd := 127) (n := 2) (xs := [(n0 : Int), (m0 : Int)]) (cs := #[.int .i64 (n0 : Int), .int .i64 (m0 : Int)]) rfl (by rfl) (fun _ => by kernel_rfl) rfl rfl HM64.out covS_nil rfl ?_
            rintro b90 W91 hm92 -
            have HM93 := Lib.hid hm92
            clear hm92
            simp only [Act.put, List.setIfInBounds_toArray, List.set_cons_succ, List.set_cons_zero]
            refine wpS_doesU3 (i := 7) (d := some 128) (rem := [_, _, _]) rfl (by rfl) rfl Try.call10 (DoesU.ofList (gstage_d (listT [_, _]) _ ⟨s.s, s.p, e⟩ (srcL 0 rfl rowT_reads) ls (n0 : Int) _ [(n0 : Int), (m0 : Int)] (rowL 1 rfl rowOwn) (Nat.le_of_ble_eq_true rfl) noR 9 ht2.out)) rfl rfl rfl HM93.out [2, 0] rfl covS_nil (fun _ => rfl) rfl ?_
            rintro u96 W95 hm94 -
            obtain ⟨pt, ct, rfl, hm94q⟩ := Mem.ringE (n := 0) rfl hm94
            clear hm94
            have HM97 := Lib.hid hm94q
            clear hm94q
            simp only [Act.put, List.setIfInBounds_toArray, List.set_cons_succ, List.set_cons_zero]
            refine wpS_this [8, 9, 10] rfl (by kernel_rfl) (by simp only [pickL, nthL, List.cons_append, List.nil_append]; rfl) ?_
            repeat (go_big_quiet_step (fail))
            refine wpQuiet_nil ?_
            refine wpS_alloc (i := 11) (dd := 16) (z := rgV noR (.slice none 0 0)) (cs := (rgC noR (.slice none 0 0)).toArray) rfl (by rfl) rfl (by kernel_rfl) rfl HM97.out covS_nil rfl ?_
            rintro b100 W99 hm98 -
            have HM101 := Lib.hid hm98
            clear hm98
            simp only [Act.put, List.setIfInBounds_toArray, List.set_cons_succ, List.set_cons_zero]
            refine wpS_storeA (i := 12) (L2 := [_, _, _, _, _, _]) (cs' := rgC (noR) (.slice pt 0 ct)) rfl (by rfl) rfl rfl rfl (by kernel_rfl) (rgC_one _ _ _) HM101.out 0 rfl rfl (by kernel_rfl) (by kernel_rfl) covS_nil rfl ?_
            rintro W103 hm102 -
            have HM104 := Lib.hid hm102
            clear hm102
            refine wpS_this [13] rfl (by kernel_rfl) (by simp only [pickL, nthL, List.cons_append, List.nil_append]; rfl) ?_
            repeat (go_big_quiet_step (fail))
            refine wpQuiet_nil ?_
            refine wpS_nil ?_
            refine then_normal ?_
            refine wp_seq ?_
            refine wp_seq ?_
            refine wp_region_N [(0, 1), (1, 1)] (by kernel_rfl) ?_
            refine wpS_this [0, 1] rfl (by kernel_rfl) (by simp only [pickL, nthL, List.cons_append, List.nil_append]; rfl) ?_
            repeat (go_big_quiet_step (fail))
            refine wpQuiet_nil ?_
            refine wpS_nil ?_
            refine then_normal ?_
            refine wp_cond_true rfl ?_
            refine wp_seq ?_
            refine wp_region_N [(0, 1), (1, 1), (2, 1), (3, 3), (4, 1), (5, 1)] (by kernel_rfl) ?_
            refine wpS_this [0, 1, 2] rfl (by kernel_rfl) (by simp only [pickL, nthL, List.cons_append, List.nil_append]; rfl) ?_
            repeat (go_big_quiet_step (fail))
            refine wpQuiet_nil ?_
            refine wpS_does0 (i := 3) (d := some 136) (rem := [_, _, _, _, _, _, _]) (out := [_, _, _, _, _, _, _]) rfl (by rfl) rfl Try.call9 (lawake_d)  HM104.out [] rfl covS_nil rfl rfl ?_
            rintro W106 hm105 -
            have HM107 := Lib.hid hm105
            clear hm105
            simp only [Act.put, List.setIfInBounds_toArray, List.set_cons_succ, List.set_cons_zero]
            refine wpS_this [4, 5] rfl (by kernel_rfl) (by simp only [pickL, nthL, List.cons_append, List.nil_append]; rfl) ?_
            repeat (go_big_quiet_step (fail))
            refine wpQuiet_nil ?_
            refine wpS_nil ?_
            refine then_normal ?_
            refine wp_ret ?_
            refine then_ret ?_
            refine bodyPost_ret (results_tmp rfl _ _ _) rfl ?_
            exact does_ret (Mem.only (M := [_]) HM107.out [6] rfl) rfl rfl
      · have hst0 : Hid (stageR (goR n0 m0) (n0 : Int) [(n0 : Int), (m0 : Int)] = (noR, 10)) := Lib.hid (goes_else hn8 hm8 hne (by omega))
        have hst1 : Hid (stageR (goR n0 m0) (m0 : Int) [(n0 : Int), (m0 : Int)] = (s, 0)) := Lib.hid (by rw [← hst.out, Nat.min_eq_right (by omega)])
        have gl : decide ((m0 : Int) < (n0 : Int)) = true := decide_eq_true (by omega)
        have gln : decide (m0 < n0) = true := decide_eq_true (by omega)
        refine wp_region_N [(0, 1), (1, 1), (2, 1), (3, 1), (4, 3), (5, 3), (6, 1), (7, 1), (8, 1), (9, 3), (10, 3), (11, 1)] (by kernel_rfl) ?_
        refine wpS_loadA (i := 0) (d := some 48) (cells := rgC ((goR n0 m0)) (.slice pq 0 cq)) rfl (by rfl) rfl rfl (HM28.out.sub 0 rfl (fun k u h => by rw [Nat.zero_add]; exact h)) Try.underlying30 rfl (by kernel_rfl) rfl ?_
        simp only [Act.put, List.setIfInBounds_toArray, List.set_cons_succ, List.set_cons_zero]
        refine wpS_this [1, 2, 3] rfl (by kernel_rfl) (by simp only [pickL, nthL, List.cons_append, List.nil_append]; rfl) ?_
        repeat (go_big_quiet_step (fail))
        refine wpQuiet_nil ?_
        refine wpS_buildN elemI (i := 4) (dd := 52) (n := 2) (xs := [(n0 : Int), (m0 : Int)]) (cs := #[.int .i64 (n0 : Int), .int .i64 (m0 : Int)]) rfl (by rfl) (fun _ => by kernel_rfl) rfl rfl HM28.out covS_nil rfl ?_
        rintro b110 W111 hm112 -
        have HM113 := Lib.hid hm112
        clear hm112
        simp only [Act.put, List.setIfInBounds_toArray, List.set_cons_succ, List.set_cons_zero]
        refine wpS_doesU3 (i := 5) (d := some 53) (rem := [_, _, _, _]) rfl (by rfl) rfl Try.call10 (DoesU.ofList (gstage_d (listT [_, _]) _ (goR n0 m0) (srcL 0 rfl rowT_reads) (Nat.zero_le _) (n0 : Int) _ [(n0 : Int), (m0 : Int)] (rowL 1 rfl rowOwn) (Nat.le_of_ble_eq_true rfl) noR 10 hst0.out)) rfl rfl rfl HM113.out [2, 0] rfl covS_nil (fun _ => rfl) rfl ?_
        rintro u116 W115 hm114 -
        obtain ⟨pv, cv, rfl, hm114q⟩ := Mem.ringE (n := 0) rfl hm114
        clear hm114
        have HM117 := Lib.hid hm114q
        clear hm114q
        simp only [Act.put, List.setIfInBounds_toArray, List.set_cons_succ, List.set_cons_zero]
        refine wpS_this [6, 7, 8] rfl (by kernel_rfl) (by simp only [pickL, nthL, List.cons_append, List.nil_append]; rfl) ?_
        repeat (go_big_quiet_step (fail))
        refine wpQuiet_nil ?_
        refine wpS_alloc (i := 9) (dd := 11) (z := rgV noR (.slice none 0 0)) (cs := (rgC noR (.slice none 0 0)).toArray) rfl (by rfl) rfl (by kernel_rfl) rfl HM117.out covS_nil rfl ?_
        rintro b120 W119 hm118 -
        have HM121 := Lib.hid hm118
        clear hm118
        simp only [Act.put, List.setIfInBounds_toArray, List.set_cons_succ, List.set_cons_zero]
        refine wpS_storeA (i := 10) (L2 := [_, _, _, _, _, _, _]) (cs' := rgC (noR) (.slice pv 0 cv)) rfl (by rfl) rfl rfl rfl (by kernel_rfl) (rgC_one _ _ _) HM121.out 0 rfl rfl (by kernel_rfl) (by kernel_rfl) covS_nil rfl ?_
        rintro W123 hm122 -
        have HM124 := Lib.hid hm122
        clear hm122
        refine wpS_this [11] rfl (by kernel_rfl) (by simp only [pickL, nthL, List.cons_append, List.nil_append]; rfl) ?_
        repeat (go_big_quiet_step (fail))
        refine wpQuiet_nil ?_
        refine wpS_nil ?_
        refine then_normal ?_
        refine wp_seq ?_
        refine wp_seq ?_
        refine wp_region_N [(0, 1), (1, 1), (2, 1)] (by kernel_rfl) ?_
        refine wpS_this [0, 1, 2] rfl (by kernel_rfl) (by simp only [pickL, nthL, List.cons_append, List.nil_append]; rfl) ?_
        repeat (go_big_quiet_step (fail))
        refine wpQuiet_nil ?_
        refine wpS_nil ?_
        refine then_normal ?_
        refine wp_cond_true rfl ?_
        refine wp_region_N [(0, 1), (1, 1), (2, 1), (3, 1), (4, 3), (5, 3), (6, 1), (7, 1), (8, 1), (9, 3), (10, 1)] (by kernel_rfl) ?_
        refine wpS_loadA (i := 0) (d := some 60) (cells := rgC ((goR n0 m0)) (.slice pq 0 cq)) rfl (by rfl) rfl rfl (HM124.out.sub 4 rfl (fun k u h => by rw [Nat.zero_add]; exact h)) Try.underlying30 rfl (by kernel_rfl) rfl ?_
        simp only [Act.put, List.setIfInBounds_toArray, List.set_cons_succ, List.set_cons_zero]
        refine wpS_this [1, 2, 3] rfl (by kernel_rfl) (by simp only [pickL, nthL, List.cons_append, List.nil_append]; rfl) ?_
        repeat (go_big_quiet_step (fail))
        refine wpQuiet_nil ?_
        refine wpS_buildN elemI (i := 4) (dd := 64) (n := 2) (xs := [(n0 : Int), (m0 : Int)]) (cs := #[.int .i64 (n0 : Int), .int .i64 (m0 : Int)]) rfl (by rfl) (fun _ => by kernel_rfl) rfl rfl HM124.out covS_nil rfl ?_
        rintro b127 W128 hm129 -
        have HM130 := Lib.hid hm129
        clear hm129
        simp only [Act.put, List.setIfInBounds_toArray, List.set_cons_succ, List.set_cons_zero]
        refine wpS_doesU3 (i := 5) (d := some 65) (rem := [_, _, _, _, _, _, _]) rfl (by rfl) rfl Try.call10 (DoesU.ofList (gstage_d (listT [_, _]) _ (goR n0 m0) (srcL 0 rfl rowT_reads) (Nat.zero_le _) (m0 : Int) _ [(n0 : Int), (m0 : Int)] (rowL 1 rfl rowOwn) (Nat.le_of_ble_eq_true rfl) s 0 hst1.out)) rfl rfl rfl HM130.out [3, 0] rfl covS_nil (fun _ => rfl) rfl ?_
        rintro u133 W132 hm131 -
        obtain ⟨ps, cs, rfl, hm131q⟩ := Mem.ringE rfl hm131
        clear hm131
        have HM134 := Lib.hid hm131q
        clear hm131q
        simp only [Act.put, List.setIfInBounds_toArray, List.set_cons_succ, List.set_cons_zero]
        refine wpS_this [6, 7, 8] rfl (by kernel_rfl) (by simp only [pickL, nthL, List.cons_append, List.nil_append]; rfl) ?_
        repeat (go_big_quiet_step (fail))
        refine wpQuiet_nil ?_
        refine wpS_storeA (i := 9) (L2 := [_, _, _, _, _, _, _, _, _]) (cs' := rgC (s) (.slice ps s.p.2.2.length cs)) rfl (by rfl) rfl rfl rfl (by kernel_rfl) (rgC_one _ _ _) HM134.out 3 rfl rfl (by kernel_rfl) (by kernel_rfl) covS_nil rfl ?_
        rintro W136 hm135 -
        have HM137 := Lib.hid hm135
        clear hm135
        refine wpS_this [10] rfl (by kernel_rfl) (by simp only [pickL, nthL, List.cons_append, List.nil_append]; rfl) ?_
        repeat (go_big_quiet_step (fail))
        refine wpQuiet_nil ?_
        refine wpS_nil ?_
        refine then_normal ?_
        refine wp_seq ?_
        refine wp_seq ?_
        refine wp_region_N [(0, 1), (1, 1), (2, 1), (3, 1), (4, 1), (5, 1), (6, 1), (7, 1), (8, 1), (9, 1), (10, 1), (11, 1), (12, 1), (13, 1), (14, 1), (15, 1), (16, 1), (17, 3), (18, 1), (19, 1), (20, 1), (21, 1), (22, 1), (23, 1), (24, 1), (25, 1), (26, 1), (27, 1), (28, 1), (29, 1), (30, 3), (31, 1)] (by kernel_rfl) ?_
        refine wpS_this [0, 1, 2, 3, 4, 5, 6, 7, 8, 9, 10, 11, 12, 13, 14] rfl (by kernel_rfl) (by simp only [pickL, nthL, List.cons_append, List.nil_append]; rfl) ?_
        repeat (go_big_quiet_step (fail))
        refine wpQuiet_nil ?_
        refine wpS_loadA (i := 15) (d := some 83) (cells := rgC (s) (.slice ps s.p.2.2.length cs)) rfl (by rfl) rfl rfl (HM137.out.sub 0 rfl (fun k u h => by rw [Nat.zero_add]; exact h)) Try.underlying30 rfl (by kernel_rfl) rfl ?_
        simp only [Act.put, List.setIfInBounds_toArray, List.set_cons_succ, List.set_cons_zero]
        refine wpS_this [16] rfl (by kernel_rfl) (by simp only [pickL, nthL, List.cons_append, List.nil_append]; rfl) ?_
        repeat (go_big_quiet_step (fail))
        refine wpQuiet_nil ?_
        refine wpS_doesU2 (i := 17) (d := some 85) (rem := [_, _, _, _, _, _, _, _, _]) rfl (by rfl) rfl Try.call21 (gmov_d (rowT elemI _ _) _ s rowT_reads ls (n0 : Int)) rfl rfl HM137.out [1] rfl covS_nil (fun _ => rfl) rfl ?_
        rintro u140 W139 hm138 -
        obtain ⟨pm, cm, rfl⟩ := row_formN hmv.out (Mem.src hm138 0 rfl rowT_reads)
        have HM141 := Lib.hid hm138
        clear hm138
        simp only [Act.put, List.setIfInBounds_toArray, List.set_cons_succ, List.set_cons_zero]
        refine wpS_this [18, 19, 20, 21, 22, 23] rfl (by kernel_rfl) (by simp only [pickL, nthL, List.cons_append, List.nil_append]; rfl) ?_
        repeat (go_big_quiet_step (fail))
        refine wpQuiet_nil ?_
        refine wpS_read (i := 24) (d := some 92) rfl (by rfl) (run_addrSt (hn8) rfl rfl rfl) rfl ?_
        simp only [Act.put, List.setIfInBounds_toArray, List.set_cons_succ, List.set_cons_zero]
        refine wpS_load1 (i := 25) (d := some 93) (u := _) rfl (by rfl) rfl rfl (HM141.out.sub1 2 rfl (rgC_s (hn8))) Try.underlying3 rfl rfl ?_
        simp only [Act.put, List.setIfInBounds_toArray, List.set_cons_succ, List.set_cons_zero]
        refine wpS_this [26, 27, 28] rfl (by kernel_rfl) (by simp only [pickL, nthL, List.cons_append, List.nil_append]; rfl) ?_
        repeat (go_big_quiet_step (fail))
        refine wpQuiet_nil ?_
        refine wpS_loadA (i := 29) (d := some 97) (cells := rgC (s) (.slice ps s.p.2.2.length cs)) rfl (by rfl) rfl rfl (HM141.out.sub 2 rfl (fun k u h => by rw [Nat.zero_add]; exact h)) Try.underlying30 rfl (by kernel_rfl) rfl ?_
        simp only [Act.put, List.setIfInBounds_toArray, List.set_cons_succ, List.set_cons_zero]
        refine wpS_does1 (i := 30) (d := some 98) (rem := [_, _, _, _, _, _, _, _, _, _]) (out := [_, _, _, _, _, _, _, _, _, _, _]) rfl (by rfl) rfl Try.call22 (settled_d (rowT elemI _ _) _ s rowT_reads ls) rfl HM141.out [1] rfl covS_nil rfl rfl ?_
        rintro W143 hm142 -
        rw [hns.out]
        have HM144 := Lib.hid hm142
        clear hm142
        simp only [Act.put, List.setIfInBounds_toArray, List.set_cons_succ, List.set_cons_zero]
        refine wpS_this [31] rfl (by kernel_rfl) (by simp only [pickL, nthL, List.cons_append, List.nil_append]; rfl) ?_
        repeat (go_big_quiet_step (fail))
        refine wpQuiet_nil ?_
        refine wpS_nil ?_
        refine then_normal ?_
        refine wp_cond_false rfl ?_
        refine wp_skip ?_
        refine then_normal ?_
        refine wp_seq ?_
        refine wp_seq ?_
        refine wp_region_N [(0, 1), (1, 1), (2, 1)] (by kernel_rfl) ?_
        refine wpS_this [0, 1, 2] rfl (by kernel_rfl) (by simp only [pickL, nthL, List.cons_append, List.nil_append]; rfl) ?_
        repeat (go_big_quiet_step (fail))
        refine wpQuiet_nil ?_
        refine wpS_nil ?_
        refine then_normal ?_
        refine wp_block ?_
        refine wp_loop_F [14, 102, 103, 104, 105, 106, 107, 108, 109, 110, 111, 112, 113, 114, 115] (fun n vs W' => ∃ (k : Nat) (e : Nat → En), n = sf.length - k ∧ vs 102 = .int .i64 (k : Int) ∧ k ≤ sf.length ∧ GoesS n0 m0 ⟨s.s, s.p, e⟩ ∧ Mem [boxT b120 (.cells (rgC ⟨s.s, s.p, e⟩ (.slice ps s.p.2.2.length cs)).toArray 30 (0, 0)), rowT elemI (.slice ps s.p.2.2.length cs) s.p.2.2, oldT W0] H w W') (n0 := sf.length) ?_ ?_
        · exact ⟨0, s.e, rfl, rfl, Nat.zero_le _, hgs.out, (Mem.only (M := [_, _, _]) HM144.out [2, 0, 8] rfl)⟩
        rintro n vs W' ⟨k, e, rfl, e102, hk, hge', hm⟩
        simp only [putAll, List.map_cons, List.map_nil, Act.put, List.setIfInBounds_toArray, List.set_cons_succ, List.set_cons_zero]
        rw [e102]
        clear e102
        have hge := Lib.hid hge'
        clear hge'
        have HM145 := Lib.hid hm
        clear hm
        refine wp_seq ?_
        refine wp_region_N [(0, 1)] (by kernel_rfl) ?_
        refine wpS_this [0] rfl (by kernel_rfl) (by simp only [pickL, nthL, List.cons_append, List.nil_append]; rfl) ?_
        repeat (go_big_quiet_step (fail))
        refine wpQuiet_nil ?_
        refine wpS_nil ?_
        refine then_normal ?_
        refine wp_seq ?_
        refine wp_cond_split rfl (fun h146 => ?_) (fun h146 => ?_)
        · have hk1 : k + 1 ≤ sf.length := by have : (k : Int) < ((sf.length : Nat) : Int) := (by simpa using h146); omega
          clear h146
          obtain ⟨z, hx'⟩ : ∃ y, sf[k]? = some y := ⟨_, List.getElem?_eq_getElem (hk1)⟩
          have hx := Lib.hid hx'
          clear hx'
          refine wp_skip ?_
          refine then_normal ?_
          refine wp_seq ?_
          refine wp_block ?_
          refine wp_seq ?_
          refine wp_region_N [(0, 1), (1, 1), (2, 1)] (by kernel_rfl) ?_
          refine wpS_index (E := elemI) (i := 0) (d := some 104) rfl (by rfl) rfl rfl rfl (HM145.out.row 2 rfl (srcOld hf).row) (hx.out) rfl ?_
          intro eb147 eo148 hc149
          simp only [Act.put, List.setIfInBounds_toArray, List.set_cons_succ, List.set_cons_zero]
          refine wpS_load1 (i := 1) (d := some 105) (u := .int .i64 z) rfl (by rfl) rfl rfl (hc149 0 _ rfl) Try.underlying3 rfl rfl ?_
          simp only [Act.put, List.setIfInBounds_toArray, List.set_cons_succ, List.set_cons_zero]
          refine wpS_this [2] rfl (by kernel_rfl) (by simp only [pickL, nthL, List.cons_append, List.nil_append]; rfl) ?_
          repeat (go_big_quiet_step (fail))
          refine wpQuiet_nil ?_
          refine wpS_nil ?_
          refine then_normal ?_
          refine wp_seq ?_
          obtain ⟨q, hq16', hmq'⟩ := mod_small 16 (by decide) (by decide) z
          have hq16 : q < 16 := by omega
          clear hq16'
          have hmq := Lib.hid hmq'
          clear hmq'
          refine wp_region_N [(0, 1), (1, 1), (2, 1), (3, 1), (4, 1)] (by kernel_rfl) ?_
          refine wpS_this [0, 1, 2] rfl (by kernel_rfl) (by simp only [pickL, nthL, List.cons_append, List.nil_append]; rfl) ?_
          repeat (go_big_quiet_step (fail))
          refine wpQuiet_nil ?_
          refine wpS_this [3] rfl (by kernel_rfl) (by simp only [pickL, nthL, List.cons_append, List.nil_append]; rfl) ?_
          repeat (go_big_quiet_step (fail))
          refine wpQuiet_nil ?_
          rw [hmq.out]
          refine wpS_this [4] rfl (by kernel_rfl) (by simp only [pickL, nthL, List.cons_append, List.nil_append]; rfl) ?_
          repeat (go_big_quiet_step (fail))
          refine wpQuiet_nil ?_
          refine wpS_nil ?_
          refine then_normal ?_
          refine wp_region_N [(0, 1), (1, 1), (2, 1), (3, 1), (4, 1), (5, 3)] (by kernel_rfl) ?_
          refine wpS_this [0, 1, 2, 3] rfl (by kernel_rfl) (by simp only [pickL, nthL, List.cons_append, List.nil_append]; rfl) ?_
          repeat (go_big_quiet_step (fail))
          refine wpQuiet_nil ?_
          refine wpS_read (i := 4) (d := some 114) rfl (by rfl) (run_addrEnt (hq16) rfl rfl rfl) rfl ?_
          simp only [Act.put, List.setIfInBounds_toArray, List.set_cons_succ, List.set_cons_zero]
          refine wpS_storeA (i := 5) (L2 := [_, _]) (cs' := rgC (⟨s.s, s.p, upd e q (2, (m0 : Int))⟩) (.slice ps s.p.2.2.length cs)) rfl (by rfl) rfl rfl rfl (by kernel_rfl) (by rfl) HM145.out 0 rfl rfl (Nat.ble_eq_true_of_le (by rw [rgC_len]; show _ + 2 ≤ _; have := hq16; omega)) (rgC_setE (hq16) ((2, (m0 : Int)))) covS_nil rfl ?_
          rintro W151 hm150 -
          have HM152 := Lib.hid hm150
          clear hm150
          refine wpS_nil ?_
          refine block_normal ?_
          refine then_normal ?_
          refine wp_region_N [(0, 1), (1, 1)] (by kernel_rfl) ?_
          refine wpS_this [0, 1] rfl (by kernel_rfl) (by simp only [pickL, nthL, List.cons_append, List.nil_append]; rfl) ?_
          repeat (go_big_quiet_step (fail))
          refine wpQuiet_nil ?_
          refine wpS_nil ?_
          refine then_normal ?_
          refine ⟨by kernel_rfl, ?_⟩
          exact ⟨sf.length - (k + 1), by omega, k + 1, upd e q (2, (m0 : Int)), rfl, rfl, hk1, hge.out.set, (Mem.only (M := [_, _, _]) HM152.out [0, 0, 0] rfl)⟩
        · clear h146
          refine wp_exit ?_
          refine then_exit (then_exit (block_exit ?_))
          refine then_normal ?_
          refine wp_seq ?_
          obtain ⟨lv, hlv'⟩ : ∃ y, (movR ⟨s.s, s.p, e⟩ n0).length = y := ⟨_, rfl⟩
          have hlv := Lib.hid hlv'
          clear hlv'
          refine wp_region_N [(0, 1), (1, 1), (2, 3), (3, 1), (4, 1)] (by kernel_rfl) ?_
          refine wpS_loadA (i := 0) (d := some 116) (cells := rgC (⟨s.s, s.p, e⟩) (.slice ps s.p.2.2.length cs)) rfl (by rfl) rfl rfl (HM145.out.sub 0 rfl (fun k u h => by rw [Nat.zero_add]; exact h)) Try.underlying30 rfl (by kernel_rfl) rfl ?_
          simp only [Act.put, List.setIfInBounds_toArray, List.set_cons_succ, List.set_cons_zero]
          refine wpS_this [1] rfl (by kernel_rfl) (by simp only [pickL, nthL, List.cons_append, List.nil_append]; rfl) ?_
          repeat (go_big_quiet_step (fail))
          refine wpQuiet_nil ?_
          refine wpS_doesU2 (i := 2) (d := some 118) (rem := [_, _]) rfl (by rfl) rfl Try.call21 (gmov_d (rowT elemI _ _) _ ⟨s.s, s.p, e⟩ rowT_reads ls (n0 : Int)) rfl rfl HM145.out [1] rfl covS_nil (fun _ => rfl) rfl ?_
          rintro u155 W154 hm153 -
          obtain ⟨pw, cw, rfl⟩ := row_formN hlv.out (Mem.src hm153 0 rfl rowT_reads)
          have HM156 := Lib.hid hm153
          clear hm153
          simp only [Act.put, List.setIfInBounds_toArray, List.set_cons_succ, List.set_cons_zero]
          refine wpS_this [3, 4] rfl (by kernel_rfl) (by simp only [pickL, nthL, List.cons_append, List.nil_append]; rfl) ?_
          repeat (go_big_quiet_step (fail))
          refine wpQuiet_nil ?_
          refine wpS_nil ?_
          refine then_normal ?_
          refine wp_seq ?_
          by_cases hl0 : lv = 0
          · have hgo := hge.out.goes (by rw [hlv.out]; exact hl0)
            obtain ⟨t, ht', hts, hset', htp⟩ := hgo
            have lt : t.p.2.2.length ≤ 1000 := by rw [htp]; exact ls
            have gts : (t.s n0 == 4) = true := beq_iff_eq.2 hts
            clear hts htp
            have ht := Lib.hid ht'
            clear ht'
            have hset := Lib.hid hset'
            clear hset'
            have gl0 : decide (0 < lv) = false := decide_eq_false (by omega)
            have gl0' : decide ((0 : Int) < (lv : Int)) = false := decide_eq_false (by omega)
            clear hl0
            have ht2 : Hid (stageR ⟨s.s, s.p, e⟩ (m0 : Int) [(n0 : Int), (m0 : Int)] = (t, 0)) := Lib.hid (by rw [← ht.out, Nat.min_eq_right (by omega)])
            refine wp_region_N [(0, 1), (1, 1), (2, 1), (3, 1), (4, 1), (5, 1), (6, 3), (7, 3), (8, 1), (9, 1), (10, 1), (11, 3), (12, 3), (13, 1)] (by kernel_rfl) ?_
            refine wpS_loadA (i := 0) (d := some 121) (cells := rgC (⟨s.s, s.p, e⟩) (.slice ps s.p.2.2.length cs)) rfl (by rfl) rfl rfl (HM156.out.sub 2 rfl (fun k u h => by rw [Nat.zero_add]; exact h)) Try.underlying30 rfl (by kernel_rfl) rfl ?_
            simp only [Act.put, List.setIfInBounds_toArray, List.set_cons_succ, List.set_cons_zero]
            refine wpS_this [1, 2, 3, 4, 5] rfl (by kernel_rfl) (by simp only [pickL, nthL, List.cons_append, List.nil_append]; rfl) ?_
            repeat (go_big_quiet_step (fail))
            refine wpQuiet_nil ?_
            refine wpS_buildN elemI (i := 6) (dd := 127) (n := 2) (xs := [(n0 : Int), (m0 : Int)]) (cs := #[.int .i64 (n0 : Int), .int .i64 (m0 : Int)]) rfl (by rfl) (fun _ => by kernel_rfl) rfl rfl HM156.out covS_nil rfl ?_
            rintro b159 W160 hm161 -
            have HM162 := Lib.hid hm161
            clear hm161
            simp only [Act.put, List.setIfInBounds_toArray, List.set_cons_succ, List.set_cons_zero]
            refine wpS_doesU3 (i := 7) (d := some 128) (rem := [_, _, _]) rfl (by rfl) rfl Try.call10 (DoesU.ofList (gstage_d (listT [_, _]) _ ⟨s.s, s.p, e⟩ (srcL 0 rfl rowT_reads) ls (m0 : Int) _ [(n0 : Int), (m0 : Int)] (rowL 1 rfl rowOwn) (Nat.le_of_ble_eq_true rfl) t 0 ht2.out)) rfl rfl rfl HM162.out [2, 0] rfl covS_nil (fun _ => rfl) rfl ?_
            rintro u165 W164 hm163 -
            obtain ⟨pt, ct, rfl, hm163q⟩ := Mem.ringE rfl hm163
            clear hm163
            have HM166 := Lib.hid hm163q
            clear hm163q
            simp only [Act.put, List.setIfInBounds_toArray, List.set_cons_succ, List.set_cons_zero]
            refine wpS_this [8, 9, 10] rfl (by kernel_rfl) (by simp only [pickL, nthL, List.cons_append, List.nil_append]; rfl) ?_
            repeat (go_big_quiet_step (fail))
            refine wpQuiet_nil ?_
            refine wpS_alloc (i := 11) (dd := 16) (z := rgV noR (.slice none 0 0)) (cs := (rgC noR (.slice none 0 0)).toArray) rfl (by rfl) rfl (by kernel_rfl) rfl HM166.out covS_nil rfl ?_
            rintro b169 W168 hm167 -
            have HM170 := Lib.hid hm167
            clear hm167
            simp only [Act.put, List.setIfInBounds_toArray, List.set_cons_succ, List.set_cons_zero]
            refine wpS_storeA (i := 12) (L2 := [_, _, _, _, _, _]) (cs' := rgC (t) (.slice pt t.p.2.2.length ct)) rfl (by rfl) rfl rfl rfl (by kernel_rfl) (rgC_one _ _ _) HM170.out 0 rfl rfl (by kernel_rfl) (by kernel_rfl) covS_nil rfl ?_
            rintro W172 hm171 -
            have HM173 := Lib.hid hm171
            clear hm171
            refine wpS_this [13] rfl (by kernel_rfl) (by simp only [pickL, nthL, List.cons_append, List.nil_append]; rfl) ?_
            repeat (go_big_quiet_step (fail))
            refine wpQuiet_nil ?_
            refine wpS_nil ?_
            refine then_normal ?_
            refine wp_seq ?_
            refine wp_seq ?_
            refine wp_region_N [(0, 1), (1, 1)] (by kernel_rfl) ?_
            refine wpS_this [0, 1] rfl (by kernel_rfl) (by simp only [pickL, nthL, List.cons_append, List.nil_append]; rfl) ?_
            repeat (go_big_quiet_step (fail))
            refine wpQuiet_nil ?_
            refine wpS_nil ?_
            refine then_normal ?_
            refine wp_cond_false rfl ?_
            refine wp_skip ?_
            refine then_normal ?_
            refine wp_seq ?_
            refine wp_region_N [(0, 1), (1, 1), (2, 1), (3, 1), (4, 1), (5, 1), (6, 1), (7, 1), (8, 1), (9, 1), (10, 1), (11, 3), (12, 1), (13, 1), (14, 3), (15, 1), (16, 1)] (by kernel_rfl) ?_
            refine wpS_this [0, 1, 2, 3, 4] rfl (by kernel_rfl) (by simp only [pickL, nthL, List.cons_append, List.nil_append]; rfl) ?_
            repeat (go_big_quiet_step (fail))
            refine wpQuiet_nil ?_
            refine wpS_read (i := 5) (d := some 143) rfl (by rfl) (run_addrSt (hn8) rfl rfl rfl) rfl ?_
            simp only [Act.put, List.setIfInBounds_toArray, List.set_cons_succ, List.set_cons_zero]
            refine wpS_load1 (i := 6) (d := some 144) (u := _) rfl (by rfl) rfl rfl (HM173.out.sub1 0 rfl (rgC_s (hn8))) Try.underlying3 rfl rfl ?_
            simp only [Act.put, List.setIfInBounds_toArray, List.set_cons_succ, List.set_cons_zero]
            refine wpS_this [7, 8, 9] rfl (by kernel_rfl) (by simp only [pickL, nthL, List.cons_append, List.nil_append]; rfl) ?_
            repeat (go_big_quiet_step (fail))
            refine wpQuiet_nil ?_
            refine wpS_loadA (i := 10) (d := some 148) (cells := rgC (t) (.slice pt t.p.2.2.length ct)) rfl (by rfl) rfl rfl (HM173.out.sub 0 rfl (fun k u h => by rw [Nat.zero_add]; exact h)) Try.underlying30 rfl (by kernel_rfl) rfl ?_
            simp only [Act.put, List.setIfInBounds_toArray, List.set_cons_succ, List.set_cons_zero]
            refine wpS_does1 (i := 11) (d := some 149) (rem := [_, _, _, _, _, _]) (out := [_, _, _, _, _, _, _]) rfl (by rfl) rfl Try.call22 (settled_d (rowT elemI _ _) _ t rowT_reads lt) rfl HM173.out [1] rfl covS_nil rfl rfl ?_
            rintro W175 hm174 -
            rw [hset.out]
            have HM176 := Lib.hid hm174
            clear hm174
            simp only [Act.put, List.setIfInBounds_toArray, List.set_cons_succ, List.set_cons_zero]
            refine wpS_this [12, 13] rfl (by kernel_rfl) (by simp only [pickL, nthL, List.cons_append, List.nil_append]; rfl) ?_
            repeat (go_big_quiet_step (fail))
            refine wpQuiet_nil ?_
            refine wpS_does0 (i := 14) (d := some 152) (rem := [_, _, _, _, _, _, _]) (out := [_, _, _, _, _, _, _]) rfl (by rfl) rfl Try.call9 (lawake_d)  HM176.out [] rfl covS_nil rfl rfl ?_
            rintro W178 hm177 -
            have HM179 := Lib.hid hm177
            clear hm177
            simp only [Act.put, List.setIfInBounds_toArray, List.set_cons_succ, List.set_cons_zero]
            refine wpS_this [15, 16] rfl (by kernel_rfl) (by simp only [pickL, nthL, List.cons_append, List.nil_append]; rfl) ?_
            repeat (go_big_quiet_step (fail))
            refine wpQuiet_nil ?_
            refine wpS_nil ?_
            refine then_normal ?_
            refine wp_ret ?_
            refine bodyPost_ret (results_tmp rfl _ _ _) rfl ?_
            exact does_ret (Mem.only (M := [_]) HM179.out [6] rfl) rfl rfl
          · have ht : Hid (stageR ⟨s.s, s.p, e⟩ ((min n0 m0 : Nat) : Int) [(n0 : Int), (m0 : Int)] = (noR, 9)) := Lib.hid (hge.out.stays (by rw [hlv.out]; exact hl0))
            have gl0 : decide (0 < lv) = true := decide_eq_true (by omega)
            have gl0' : decide ((0 : Int) < (lv : Int)) = true := decide_eq_true (by omega)
            clear hl0
            have ht2 : Hid (stageR ⟨s.s, s.p, e⟩ (m0 : Int) [(n0 : Int), (m0 : Int)] = (noR, 9)) := Lib.hid (by rw [← ht.out, Nat.min_eq_right (by omega)])
            refine wp_region_N [(0, 1), (1, 1), (2, 1), (3, 1), (4, 1), (5, 1), (6, 3), (7, 3), (8, 1), (9, 1), (10, 1), (11, 3), (12, 3), (13, 1)] (by kernel_rfl) ?_
            refine wpS_loadA (i := 0) (d := some 121) (cells := rgC (⟨s.s, s.p, e⟩) (.slice ps s.p.2.2.length cs)) rfl (by rfl) rfl rfl (HM156.out.sub 2 rfl (fun k u h => by rw [Nat.zero_add]; exact h)) Try.underlying30 rfl (by kernel_rfl) rfl ?_
            simp only [Act.put, List.setIfInBounds_toArray, List.set_cons_succ, List.set_cons_zero]
            refine wpS_this [1, 2, 3, 4, 5] rfl (by kernel_rfl) (by simp only [pickL, nthL, List.cons_append, List.nil_append]; rfl) ?_
            repeat (go_big_quiet_step (fail))
            refine wpQuiet_nil ?_
            refine wpS_buildN elemI (i := 6) (dd := 127) (n := 2) (xs := [(n0 : Int), (m0 : Int)]) (cs := #[.int .i64 (n0 : Int), .int .i64 (m0 : Int)]) rfl (by rfl) (fun _ => by kernel_rfl) rfl rfl HM156.out covS_nil rfl ?_
            rintro b182 W183 hm184 -
            have HM185 := Lib.hid hm184
            clear hm184
            simp only [Act.put, List.setIfInBounds_toArray, List.set_cons_succ, List.set_cons_zero]
            refine wpS_doesU3 (i := 7) (d := some 128) (rem := [_, _, _]) rfl (by rfl) rfl Try.call10 (DoesU.ofList (gstage_d (listT [_, _]) _ ⟨s.s, s.p, e⟩ (srcL 0 rfl rowT_reads) ls (m0 : Int) _ [(n0 : Int), (m0 : Int)] (rowL 1 rfl rowOwn) (Nat.le_of_ble_eq_true rfl) noR 9 ht2.out)) rfl rfl rfl HM185.out [2, 0] rfl covS_nil (fun _ => rfl) rfl ?_
            rintro u188 W187 hm186 -
            obtain ⟨pt, ct, rfl, hm186q⟩ := Mem.ringE (n := 0) rfl hm186
            clear hm186
            have HM189 := Lib.hid hm186q
            clear hm186q
            simp only [Act.put, List.setIfInBounds_toArray, List.set_cons_succ, List.set_cons_zero]
            refine wpS_this [8, 9, 10] rfl (by kernel_rfl) (by simp only [pickL, nthL, List.cons_append, List.nil_append]; rfl) ?_
            repeat (go_big_quiet_step (fail))
            refine wpQuiet_nil ?_
            refine wpS_alloc (i := 11) (dd := 16) (z := rgV noR (.slice none 0 0)) (cs := (rgC noR (.slice none 0 0)).toArray) rfl (by rfl) rfl (by kernel_rfl) rfl HM189.out covS_nil rfl ?_
            rintro b192 W191 hm190 -
            have HM193 := Lib.hid hm190
            clear hm190
            simp only [Act.put, List.setIfInBounds_toArray, List.set_cons_succ, List.set_cons_zero]
            refine wpS_storeA (i := 12) (L2 := [_, _, _, _, _, _]) (cs' := rgC (noR) (.slice pt 0 ct)) rfl (by rfl) rfl rfl rfl (by kernel_rfl) (rgC_one _ _ _) HM193.out 0 rfl rfl (by kernel_rfl) (by kernel_rfl) covS_nil rfl ?_
            rintro W195 hm194 -
            have HM196 := Lib.hid hm194
            clear hm194
            refine wpS_this [13] rfl (by kernel_rfl) (by simp only [pickL, nthL, List.cons_append, List.nil_append]; rfl) ?_
            repeat (go_big_quiet_step (fail))
            refine wpQuiet_nil ?_
            refine wpS_nil ?_
            refine then_normal ?_
            refine wp_seq ?_
            refine wp_seq ?_
            refine wp_region_N [(0, 1), (1, 1)] (by kernel_rfl) ?_
            refine wpS_this [0, 1] rfl (by kernel_rfl) (by simp only [pickL, nthL, List.cons_append, List.nil_append]; rfl) ?_
            repeat (go_big_quiet_step (fail))
            refine wpQuiet_nil ?_
            refine wpS_nil ?_
            refine then_normal ?_
            refine wp_cond_true rfl ?_
            refine wp_seq ?_
            refine wp_region_N [(0, 1), (1, 1), (2, 1), (3, 3), (4, 1), (5, 1)] (by kernel_rfl) ?_
            refine wpS_this [0, 1, 2] rfl (by kernel_rfl) (by simp only [pickL, nthL, List.cons_append, List.nil_append]; rfl) ?_
            repeat (go_big_quiet_step (fail))
            refine wpQuiet_nil ?_
            refine wpS_does0 (i := 3) (d := some 136) (rem := [_, _, _, _, _, _, _]) (out := [_, _, _, _, _, _, _]) rfl (by rfl) rfl Try.call9 (lawake_d)  HM196.out [] rfl covS_nil rfl rfl ?_
            rintro W198 hm197 -
            have HM199 := Lib.hid hm197
            clear hm197
            simp only [Act.put, List.setIfInBounds_toArray, List.set_cons_succ, List.set_cons_zero]
            refine wpS_this [4, 5] rfl (by kernel_rfl) (by simp only [pickL, nthL, List.cons_append, List.nil_append]; rfl) ?_
            repeat (go_big_quiet_step (fail))
            refine wpQuiet_nil ?_
            refine wpS_nil ?_
            refine then_normal ?_
            refine wp_ret ?_
            refine then_ret ?_
            refine bodyPost_ret (results_tmp rfl _ _ _) rfl ?_
            exact does_ret (Mem.only (M := [_]) HM199.out [6] rfl) rfl rfl

theorem goesLaw (n0 : Int) (n1 : Int) (v2 : Value) (l2 : List Int) (W : World) (h2 : SrcE elemI W v2 l2) (m2 : l2.length * elemI.bytes ≤ 140737488351232) : Gives Try.prog 4 #[.int .i64 n0, .int .i64 n1, v2] W (.bool true) := (goes_d W n0 n1 v2 l2 h2 (Nat.le_trans (Nat.le_mul_of_pos_right _ elemI.bpos) m2)).givesOld
end Go.Proofs.Ytdfmfcbeebfdhaa
