/- Rings: RingFirsts. -/
import Derived.Test.YtihhopoplcelfaaRgE
namespace Go.Proofs.Ytihhopoplcelfaa
open Go Go.RowKit Go.BigFrame

theorem row_form0 {W : World} {v : Value} (h : SrcE elemI W v []) : ∃ p c, v = .slice p 0 c := row_form h
theorem mod_small (m : Int) (hm : 1 ≤ m) (hm2 : m ≤ 1000) (n : Int) : ∃ k : Nat, (k : Int) < m ∧ wrap64 ((IntKind.u64.wrap n).tmod m) = (k : Int) := by
  have h0 : 0 ≤ IntKind.u64.wrap n := by
    unfold IntKind.wrap
    simp only [IntKind.signed, IntKind.bits, Bool.false_and, Bool.false_eq_true, if_false]
    exact Int.emod_nonneg _ (by decide)
  rw [Int.tmod_eq_emod_of_nonneg h0]
  have h1 := Int.emod_nonneg (IntKind.u64.wrap n) (show m ≠ 0 by omega)
  have h2 := Int.emod_lt_of_pos (IntKind.u64.wrap n) (show 0 < m by omega)
  obtain ⟨r, hr⟩ : ∃ r, IntKind.u64.wrap n % m = r := ⟨_, rfl⟩
  rw [hr] at h1 h2 ⊢
  refine ⟨r.toNat, by omega, ?_⟩
  unfold wrap64
  omega
theorem node_nat {k : Nat} (h : k < 8) : nodeE (k : Int) = true := decide_eq_true (by omega)
theorem firstR_nat {k : Nat} (h : k < 8) : firstR (k : Int) = (oneR k, true) := by
  unfold firstR
  rw [if_pos (node_nat h), Int.toNat_natCast]
theorem firstR_out {k : Nat} : firstR (8 + (k : Int)) = (noR, false) := by
  unfold firstR
  rw [if_neg]
  intro h
  have := of_decide_eq_true h
  omega
theorem mayR_one {k : Nat} (h : k < 8) : mayR (oneR k) = true := by
  unfold mayR
  rw [Bool.and_eq_true, Bool.and_eq_true, all8, all16]
  refine ⟨fun j _ => ?_, fun j _ => ?_, show mayP (0, 0, []) = true by decide⟩
  · show statB (if j = k then 2 else 0) = true
    split <;> decide
  · exact decide_eq_true (show ((1 : Int) = 0 ∧ (k : Int) = 0) ∨ (1 ≤ (1 : Int) ∧ (1 : Int) ≤ 1000000 ∧ 0 ≤ (k : Int) ∧ (k : Int) < 8) by omega)
theorem firsts_s {a b : Nat} : (joinR (oneR a) (oneR b)).s a = 2 ∧ (joinR (oneR a) (oneR b)).s b = 2 := by
  constructor
  · show max (if a = a then (2 : Int) else 0) (if a = b then 2 else 0) = 2
    rw [if_pos rfl]
    split <;> decide
  · show max (if b = a then (2 : Int) else 0) (if b = b then 2 else 0) = 2
    rw [if_pos (rfl : b = b)]
    split <;> decide
theorem joinE_one {a b : Nat} : joinE (1, (a : Int)) (1, (b : Int)) = (1, if a < b then (b : Int) else (a : Int)) := by
  unfold joinE joinC cmpE
  rw [orI_next (show cmpI (1, (b : Int)).1 (1, (a : Int)).1 = 0 from rfl)]
  dsimp only
  rcases cmpI_spec (b : Int) a with ⟨h, e⟩ | ⟨h, e⟩ | ⟨h, e⟩ <;> rw [e]
  · rw [if_neg (by decide), if_neg (by omega)]
  · rw [if_neg (by decide), if_neg (by omega)]
  · rw [if_pos (by decide), if_pos (by omega)]
theorem firsts_own {a b p : Nat} (ha : a < 8) (hb : b < 8) (hp : p < 16) : ownerR (joinR (oneR a) (oneR b)) (p : Int) = if a < b then (b : Int) else (a : Int) := by
  have h1 : (joinR (oneR a) (oneR b)).e p = (1, if a < b then (b : Int) else (a : Int)) := joinE_one
  unfold ownerR
  rw [Int.toNat_natCast, h1, if_pos]
  refine ⟨decide_eq_true (by omega), show (1 : Int) ≠ 0 by decide, decide_eq_true (.inr ?_)⟩
  dsimp only
  split <;> omega
theorem firsts_target {a b : Nat} (p : Int) : targetR (joinR (oneR a) (oneR b)) p = -1 := by
  unfold targetR
  rw [if_neg]
  rintro ⟨_, h, _⟩
  exact h rfl
theorem firsts_mov {a b : Nat} (n : Int) : movR (joinR (oneR a) (oneR b)) n = [] := by
  unfold movR
  rw [List.map_eq_nil_iff, List.filter_eq_nil_iff]
  intro p _ h
  have h1 := (of_decide_eq_true h).2.2.1
  rw [firsts_target] at h1
  omega
theorem firsts_same {a b : Nat} (ha : a < 8) : sameR (oneR a) (oneR b) = decide (a = b) := by
  rw [Bool.eq_iff_iff, sameR_iff, decide_eq_true_iff]
  constructor
  · rintro ⟨h, _⟩
    have h1 : (if a = a then (2 : Int) else 0) = if a = b then 2 else 0 := h a ha
    rw [if_pos rfl] at h1
    split at h1
    · assumption
    · omega
  · rintro rfl
    exact ⟨fun _ _ => rfl, rfl, fun _ _ => rfl⟩
set_option maxHeartbeats 4000000 in
set_option maxRecDepth 100000 in
theorem firsts_d (a b : Int) : Does Try.prog 7 #[.int .i64 a, .int .i64 b] [] (.bool true) [] := by
  intro w H hp
  have HM0 := Lib.hid (mem_refl hp)
  clear hp
  go_enter Try.func7, Try.ntmps7
  refine wp_seq ?_
  refine wp_region_N [(0, 1)] (by kernel_rfl) ?_
  refine wpS_this [0] rfl (by kernel_rfl) (by simp only [pickL, nthL, List.cons_append, List.nil_append]; rfl) ?_
  repeat (go_big_quiet_step (fail))
  refine wpQuiet_nil ?_
  refine wpS_nil ?_
  refine then_normal ?_
  refine wp_seq ?_
  obtain ⟨ka, hka, hma'⟩ := mod_small 8 (by decide) (by decide) a
  obtain ⟨kb, hkb, hmb'⟩ := mod_small 8 (by decide) (by decide) b
  have ha8 : ka < 8 := by omega
  have hb8 : kb < 8 := by omega
  clear hka hkb
  have hma := Lib.hid hma'
  clear hma'
  have hmb := Lib.hid hmb'
  clear hmb'
  have hfx := Lib.hid (firstR_nat ha8)
  have hfy := Lib.hid (firstR_nat hb8)
  refine wp_region_N [(0, 1), (1, 1), (2, 1), (3, 1), (4, 1), (5, 1), (6, 1), (7, 1), (8, 1), (9, 1)] (by kernel_rfl) ?_
  refine wpS_this [0, 1, 2] rfl (by kernel_rfl) (by simp only [pickL, nthL, List.cons_append, List.nil_append]; rfl) ?_
  repeat (go_big_quiet_step (fail))
  refine wpQuiet_nil ?_
  refine wpS_this [3] rfl (by kernel_rfl) (by simp only [pickL, nthL, List.cons_append, List.nil_append]; rfl) ?_
  repeat (go_big_quiet_step (fail))
  refine wpQuiet_nil ?_
  rw [hma.out]
  refine wpS_this [4, 5, 6] rfl (by kernel_rfl) (by simp only [pickL, nthL, List.cons_append, List.nil_append]; rfl) ?_
  repeat (go_big_quiet_step (fail))
  refine wpQuiet_nil ?_
  refine wpS_this [7] rfl (by kernel_rfl) (by simp only [pickL, nthL, List.cons_append, List.nil_append]; rfl) ?_
  repeat (go_big_quiet_step (fail))
  refine wpQuiet_nil ?_
  rw [hmb.out]
  refine wpS_this [8, 9] rfl (by kernel_rfl) (by simp only [pickL, nthL, List.cons_append, List.nil_append]; rfl) ?_
  repeat (go_big_quiet_step (fail))
  refine wpQuiet_nil ?_
  refine wpS_nil ?_
  refine then_normal ?_
  refine wp_seq ?_
  refine wp_region_N [(0, 1), (1, 3), (2, 1), (3, 1), (4, 1), (5, 3), (6, 3), (7, 1)] (by kernel_rfl) ?_
  refine wpS_this [0] rfl (by kernel_rfl) (by simp only [pickL, nthL, List.cons_append, List.nil_append]; rfl) ?_
  repeat (go_big_quiet_step (fail))
  refine wpQuiet_nil ?_
  refine wpS_doesU1 (i := 1) (d := some 23) (rem := []) rfl (by rfl) rfl Try.call16 (gfirst_d (ka : Nat) (oneR ka) true hfx.out) rfl HM0.out [] rfl covS_nil (fun _ => rfl) rfl ?_
  rintro u3 W2 hm1 -
  obtain ⟨px, cx, rfl, hm1q⟩ := Mem.ringE (n := 0) rfl hm1
  clear hm1
  have HM4 := Lib.hid hm1q
  clear hm1q
  simp only [Act.put, List.setIfInBounds_toArray, List.set_cons_succ, List.set_cons_zero]
  refine wpS_this [2, 3, 4] rfl (by kernel_rfl) (by simp only [pickL, nthL, List.cons_append, List.nil_append]; rfl) ?_
  repeat (go_big_quiet_step (fail))
  refine wpQuiet_nil ?_
  refine wpS_alloc (i := 5) (dd := 5) (z := rgV noR (.slice none 0 0)) (cs := (rgC noR (.slice none 0 0)).toArray) rfl (by rfl) rfl (by kernel_rfl) rfl HM4.out covS_nil rfl ?_
  rintro b7 W6 hm5 -
  have HM8 := Lib.hid hm5
  clear hm5
  simp only [Act.put, List.setIfInBounds_toArray, List.set_cons_succ, List.set_cons_zero]
  refine wpS_storeA (i := 6) (L2 := [_]) (cs' := rgC ((oneR ka)) (.slice px 0 cx)) rfl (by rfl) rfl rfl rfl (by kernel_rfl) (rgC_one _ _ _) HM8.out 0 rfl rfl (by kernel_rfl) (by kernel_rfl) covS_nil rfl ?_
  rintro W10 hm9 -
  have HM11 := Lib.hid hm9
  clear hm9
  refine wpS_this [7] rfl (by kernel_rfl) (by simp only [pickL, nthL, List.cons_append, List.nil_append]; rfl) ?_
  repeat (go_big_quiet_step (fail))
  refine wpQuiet_nil ?_
  refine wpS_nil ?_
  refine then_normal ?_
  refine wp_seq ?_
  refine wp_region_N [(0, 1), (1, 3), (2, 1), (3, 1), (4, 1), (5, 3), (6, 3), (7, 1)] (by kernel_rfl) ?_
  refine wpS_this [0] rfl (by kernel_rfl) (by simp only [pickL, nthL, List.cons_append, List.nil_append]; rfl) ?_
  repeat (go_big_quiet_step (fail))
  refine wpQuiet_nil ?_
  refine wpS_doesU1 (i := 1) (d := some 28) (rem := [_, _]) rfl (by rfl) rfl Try.call16 (gfirst_d (kb : Nat) (oneR kb) true hfy.out) rfl HM11.out [] rfl covS_nil (fun _ => rfl) rfl ?_
  rintro u14 W13 hm12 -
  obtain ⟨py, cy, rfl, hm12q⟩ := Mem.ringE (n := 0) rfl hm12
  clear hm12
  have HM15 := Lib.hid hm12q
  clear hm12q
  simp only [Act.put, List.setIfInBounds_toArray, List.set_cons_succ, List.set_cons_zero]
  refine wpS_this [2, 3, 4] rfl (by kernel_rfl) (by simp only [pickL, nthL, List.cons_append, List.nil_append]; rfl) ?_
  repeat (go_big_quiet_step (fail))
  refine wpQuiet_nil ?_
  refine wpS_alloc (i := 5) (dd := 7) (z := rgV noR (.slice none 0 0)) (cs := (rgC noR (.slice none 0 0)).toArray) rfl (by rfl) rfl (by kernel_rfl) rfl HM15.out covS_nil rfl ?_
  rintro b18 W17 hm16 -
  have HM19 := Lib.hid hm16
  clear hm16
  simp only [Act.put, List.setIfInBounds_toArray, List.set_cons_succ, List.set_cons_zero]
  refine wpS_storeA (i := 6) (L2 := [_, _, _]) (cs' := rgC ((oneR kb)) (.slice py 0 cy)) rfl (by rfl) rfl rfl rfl (by kernel_rfl) (rgC_one _ _ _) HM19.out 0 rfl rfl (by kernel_rfl) (by kernel_rfl) covS_nil rfl ?_
  rintro W21 hm20 -
  have HM22 := Lib.hid hm20
  clear hm20
  refine wpS_this [7] rfl (by kernel_rfl) (by simp only [pickL, nthL, List.cons_append, List.nil_append]; rfl) ?_
  repeat (go_big_quiet_step (fail))
  refine wpQuiet_nil ?_
  refine wpS_nil ?_
  refine then_normal ?_
  refine wp_seq ?_
  obtain ⟨j, hj'⟩ := ring_letter (joinR (oneR ka) (oneR kb))
  have hj := Lib.hid hj'
  clear hj'
  have hjl : Hid (j.p.2.2.length = 0) := Lib.hid (by rw [← hj.out]; rfl)
  have lj : j.p.2.2.length ≤ 1000 := by rw [hjl.out]; decide
  have hmj : Hid (mayR j = true) := Lib.hid (by rw [← hj.out]; exact mayR_join (mayR_one ha8) (mayR_one hb8))
  have gsa : (j.s ka != 2) = false := by rw [← hj.out, firsts_s.1]; rfl
  have gsb : (j.s kb != 2) = false := by rw [← hj.out, firsts_s.2]; rfl
  have hmv : Hid (movR j ka = []) := Lib.hid (by rw [← hj.out]; exact firsts_mov _)
  have hown : Hid (∀ p : Nat, p < 16 → ownerR j p = if ka < kb then (kb : Int) else (ka : Int)) := Lib.hid (fun p hp => by rw [← hj.out]; exact firsts_own ha8 hb8 hp)
  have htg : Hid (∀ p : Int, targetR j p = -1) := Lib.hid (fun p => by rw [← hj.out]; exact firsts_target p)
  refine wp_region_N [(0, 1), (1, 1), (2, 3), (3, 3), (4, 3)] (by kernel_rfl) ?_
  refine wpS_loadA (i := 0) (d := some 31) (cells := rgC ((oneR ka)) (.slice px 0 cx)) rfl (by rfl) rfl rfl (HM22.out.sub 2 rfl (fun k u h => by rw [Nat.zero_add]; exact h)) Try.underlying30 rfl (by kernel_rfl) rfl ?_
  simp only [Act.put, List.setIfInBounds_toArray, List.set_cons_succ, List.set_cons_zero]
  refine wpS_loadA (i := 1) (d := some 32) (cells := rgC ((oneR kb)) (.slice py 0 cy)) rfl (by rfl) rfl rfl (HM22.out.sub 0 rfl (fun k u h => by rw [Nat.zero_add]; exact h)) Try.underlying30 rfl (by kernel_rfl) rfl ?_
  simp only [Act.put, List.setIfInBounds_toArray, List.set_cons_succ, List.set_cons_zero]
  refine wpS_doesU2 (i := 2) (d := some 33) (rem := [_, _]) rfl (by rfl) rfl Try.call10 (DoesU.ofList (gjoin_d (listT [_, _]) _ (oneR ka) (srcL 0 rfl rowT_reads) (Nat.zero_le _) _ (oneR kb) (srcL 1 rfl rowT_reads) (Nat.zero_le _) j hj.out)) rfl rfl HM22.out [3, 1] rfl covS_nil (fun _ => rfl) rfl ?_
  rintro u25 W24 hm23 -
  obtain ⟨pj, cj, rfl, hm23q⟩ := Mem.ring (n := 0) hjl.out hm23
  clear hm23
  have HM26 := Lib.hid hm23q
  clear hm23q
  simp only [Act.put, List.setIfInBounds_toArray, List.set_cons_succ, List.set_cons_zero]
  refine wpS_alloc (i := 3) (dd := 9) (z := rgV noR (.slice none 0 0)) (cs := (rgC noR (.slice none 0 0)).toArray) rfl (by rfl) rfl (by kernel_rfl) rfl HM26.out covS_nil rfl ?_
  rintro b29 W28 hm27 -
  have HM30 := Lib.hid hm27
  clear hm27
  simp only [Act.put, List.setIfInBounds_toArray, List.set_cons_succ, List.set_cons_zero]
  refine wpS_storeA (i := 4) (L2 := [_, _, _, _, _]) (cs' := rgC (j) (.slice pj 0 cj)) rfl (by rfl) rfl rfl rfl (by kernel_rfl) (rgC_one _ _ _) HM30.out 0 rfl rfl (by kernel_rfl) (by kernel_rfl) covS_nil rfl ?_
  rintro W32 hm31 -
  have HM33 := Lib.hid hm31
  clear hm31
  refine wpS_nil ?_
  refine then_normal ?_
  refine wp_seq ?_
  refine wp_seq ?_
  refine wp_region_N [(0, 1), (1, 1), (2, 1), (3, 1), (4, 1), (5, 1), (6, 1), (7, 1), (8, 3), (9, 1), (10, 1), (11, 1), (12, 1), (13, 1), (14, 1), (15, 1), (16, 1), (17, 1), (18, 1), (19, 1), (20, 1), (21, 1), (22, 1), (23, 1), (24, 1), (25, 1), (26, 1), (27, 1), (28, 3), (29, 1), (30, 1), (31, 1)] (by kernel_rfl) ?_
  refine wpS_this [0, 1, 2, 3, 4, 5, 6] rfl (by kernel_rfl) (by simp only [pickL, nthL, List.cons_append, List.nil_append]; rfl) ?_
  repeat (go_big_quiet_step (fail))
  refine wpQuiet_nil ?_
  refine wpS_loadA (i := 7) (d := some 41) (cells := rgC (j) (.slice pj 0 cj)) rfl (by rfl) rfl rfl (HM33.out.sub 0 rfl (fun k u h => by rw [Nat.zero_add]; exact h)) Try.underlying30 rfl (by kernel_rfl) rfl ?_
  simp only [Act.put, List.setIfInBounds_toArray, List.set_cons_succ, List.set_cons_zero]
  refine wpS_does1 (i := 8) (d := some 42) (rem := [_, _, _, _, _]) (out := [_, _, _, _, _, _]) rfl (by rfl) rfl Try.call13 (gmay_d (rowT elemI _ _) _ j rowT_reads lj ) rfl HM33.out [1] rfl covS_nil rfl rfl ?_
  rintro W35 hm34 -
  rw [hmj.out]
  have HM36 := Lib.hid hm34
  clear hm34
  simp only [Act.put, List.setIfInBounds_toArray, List.set_cons_succ, List.set_cons_zero]
  refine wpS_this [9, 10, 11, 12, 13] rfl (by kernel_rfl) (by simp only [pickL, nthL, List.cons_append, List.nil_append]; rfl) ?_
  repeat (go_big_quiet_step (fail))
  refine wpQuiet_nil ?_
  refine wpS_read (i := 14) (d := some 48) rfl (by rfl) (run_addrSt (ha8) rfl rfl rfl) rfl ?_
  simp only [Act.put, List.setIfInBounds_toArray, List.set_cons_succ, List.set_cons_zero]
  refine wpS_load1 (i := 15) (d := some 49) (u := _) rfl (by rfl) rfl rfl (HM36.out.sub1 1 rfl (rgC_s (ha8))) Try.underlying3 rfl rfl ?_
  simp only [Act.put, List.setIfInBounds_toArray, List.set_cons_succ, List.set_cons_zero]
  refine wpS_this [16, 17, 18, 19, 20] rfl (by kernel_rfl) (by simp only [pickL, nthL, List.cons_append, List.nil_append]; rfl) ?_
  repeat (go_big_quiet_step (fail))
  refine wpQuiet_nil ?_
  refine wpS_read (i := 21) (d := some 55) rfl (by rfl) (run_addrSt (hb8) rfl rfl rfl) rfl ?_
  simp only [Act.put, List.setIfInBounds_toArray, List.set_cons_succ, List.set_cons_zero]
  refine wpS_load1 (i := 22) (d := some 56) (u := _) rfl (by rfl) rfl rfl (HM36.out.sub1 1 rfl (rgC_s (hb8))) Try.underlying3 rfl rfl ?_
  simp only [Act.put, List.setIfInBounds_toArray, List.set_cons_succ, List.set_cons_zero]
  refine wpS_this [23, 24, 25] rfl (by kernel_rfl) (by simp only [pickL, nthL, List.cons_append, List.nil_append]; rfl) ?_
  repeat (go_big_quiet_step (fail))
  refine wpQuiet_nil ?_
  refine wpS_loadA (i := 26) (d := some 60) (cells := rgC (j) (.slice pj 0 cj)) rfl (by rfl) rfl rfl (HM36.out.sub 1 rfl (fun k u h => by rw [Nat.zero_add]; exact h)) Try.underlying30 rfl (by kernel_rfl) rfl ?_
  simp only [Act.put, List.setIfInBounds_toArray, List.set_cons_succ, List.set_cons_zero]
  refine wpS_this [27] rfl (by kernel_rfl) (by simp only [pickL, nthL, List.cons_append, List.nil_append]; rfl) ?_
  repeat (go_big_quiet_step (fail))
  refine wpQuiet_nil ?_
  refine wpS_doesU2 (i := 28) (d := some 62) (rem := [_, _, _, _, _]) rfl (by rfl) rfl Try.call20 (gmov_d (rowT elemI _ _) _ j rowT_reads lj ka) rfl rfl HM36.out [0] rfl covS_nil (fun _ => rfl) rfl ?_
  rintro u39 W38 hm37 -
  rw [hmv.out] at hm37
  obtain ⟨pm, cm, rfl⟩ := row_form0 (Mem.src hm37 0 rfl rowT_reads)
  have HM40 := Lib.hid hm37
  clear hm37
  simp only [Act.put, List.setIfInBounds_toArray, List.set_cons_succ, List.set_cons_zero]
  refine wpS_this [29, 30, 31] rfl (by kernel_rfl) (by simp only [pickL, nthL, List.cons_append, List.nil_append]; rfl) ?_
  repeat (go_big_quiet_step (fail))
  refine wpQuiet_nil ?_
  refine wpS_nil ?_
  refine then_normal ?_
  refine wp_cond_false rfl ?_
  refine wp_skip ?_
  refine then_normal ?_
  refine wp_seq ?_
  refine wp_seq ?_
  refine wp_region_N [(0, 1)] (by kernel_rfl) ?_
  refine wpS_this [0] rfl (by kernel_rfl) (by simp only [pickL, nthL, List.cons_append, List.nil_append]; rfl) ?_
  repeat (go_big_quiet_step (fail))
  refine wpQuiet_nil ?_
  refine wpS_nil ?_
  refine then_normal ?_
  refine wp_block ?_
  refine wp_loop_F [4, 10, 66, 67, 68, 69, 70, 71, 72, 73, 74, 75, 76, 77, 78, 79, 80, 81, 82] (fun n vs W' => ∃ k : Nat, n = 16 - k ∧ vs 66 = .int .i64 (k : Int) ∧ k ≤ 16 ∧ True ∧ Mem [boxT b29 (.cells (rgC j (.slice pj 0 cj)).toArray 30 (0, 0)), rowT elemI (.slice pj 0 cj) j.p.2.2, boxT b7 (.cells (rgC (oneR ka) (.slice px 0 cx)).toArray 30 (0, 0)), boxT b18 (.cells (rgC (oneR kb) (.slice py 0 cy)).toArray 30 (0, 0)), rowT elemI (.slice px 0 cx) (oneR ka).p.2.2, rowT elemI (.slice py 0 cy) (oneR kb).p.2.2] H w W') (n0 := 16) ?_ ?_
  · exact ⟨0, rfl, rfl, Nat.zero_le _, trivial, (Mem.only (M := [_, _, _, _, _, _]) HM40.out [2, 1, 4, 3, 1, 1] rfl)⟩
  rintro n vs W' ⟨k, rfl, e66, hk, hf', hm⟩
  simp only [putAll, List.map_cons, List.map_nil, Act.put, List.setIfInBounds_toArray, List.set_cons_succ, List.set_cons_zero]
  rw [e66]
  clear e66
  have hf := Lib.hid hf'
  clear hf'
  have HM41 := Lib.hid hm
  clear hm
  refine wp_seq ?_
  refine wp_region_N [(0, 1)] (by kernel_rfl) ?_
  refine wpS_this [0] rfl (by kernel_rfl) (by simp only [pickL, nthL, List.cons_append, List.nil_append]; rfl) ?_
  repeat (go_big_quiet_step (fail))
  refine wpQuiet_nil ?_
  refine wpS_nil ?_
  refine then_normal ?_
  refine wp_seq ?_
  refine wp_cond_split rfl (fun h42 => ?_) (fun h42 => ?_)
  · have hk1 : k + 1 ≤ 16 := by have : (k : Int) < 16 := (by simpa using h42); omega
    clear h42
    refine wp_skip ?_
    refine then_normal ?_
    refine wp_seq ?_
    refine wp_block ?_
    refine wp_seq ?_
    refine wp_region_N [(0, 1), (1, 1)] (by kernel_rfl) ?_
    refine wpS_this [0, 1] rfl (by kernel_rfl) (by simp only [pickL, nthL, List.cons_append, List.nil_append]; rfl) ?_
    repeat (go_big_quiet_step (fail))
    refine wpQuiet_nil ?_
    refine wpS_nil ?_
    refine then_normal ?_
    refine wp_seq ?_
    by_cases hlt : ka < kb
    · have gm : (if ka < kb then (kb : Int) else (ka : Int)) = kb := if_pos hlt
      replace gm := Lib.hid gm
      have gmm : ((kb : Int) != if (ka : Int) < (kb : Int) then (kb : Int) else (ka : Int)) = false := by rw [if_pos (by omega)]; exact bne_self_eq_false _
      have gmn : ((kb : Int) != if ka < kb then (kb : Int) else (ka : Int)) = false := by rw [if_pos hlt]; exact bne_self_eq_false _
      clear hlt
      refine wp_region_N [(0, 1), (1, 1), (2, 3), (3, 1), (4, 1), (5, 1), (6, 1), (7, 1), (8, 1), (9, 1), (10, 3), (11, 1), (12, 1)] (by kernel_rfl) ?_
      refine wpS_loadA (i := 0) (d := some 69) (cells := rgC (j) (.slice pj 0 cj)) rfl (by rfl) rfl rfl (HM41.out.sub 0 rfl (fun k u h => by rw [Nat.zero_add]; exact h)) Try.underlying30 rfl (by kernel_rfl) rfl ?_
      simp only [Act.put, List.setIfInBounds_toArray, List.set_cons_succ, List.set_cons_zero]
      refine wpS_this [1] rfl (by kernel_rfl) (by simp only [pickL, nthL, List.cons_append, List.nil_append]; rfl) ?_
      repeat (go_big_quiet_step (fail))
      refine wpQuiet_nil ?_
      refine wpS_does2 (i := 2) (d := some 71) (rem := [_, _, _, _, _]) (out := [_, _, _, _, _, _]) rfl (by rfl) rfl Try.call17 (gowner_d (rowT elemI _ _) _ j rowT_reads lj k) rfl rfl HM41.out [1] rfl covS_nil rfl rfl ?_
      rintro W44 hm43 -
      rw [hown.out k (by omega), gm.out]
      have HM45 := Lib.hid hm43
      clear hm43
      simp only [Act.put, List.setIfInBounds_toArray, List.set_cons_succ, List.set_cons_zero]
      refine wpS_this [3, 4, 5, 6, 7] rfl (by kernel_rfl) (by simp only [pickL, nthL, List.cons_append, List.nil_append]; rfl) ?_
      repeat (go_big_quiet_step (fail))
      refine wpQuiet_nil ?_
      refine wpS_loadA (i := 8) (d := some 77) (cells := rgC (j) (.slice pj 0 cj)) rfl (by rfl) rfl rfl (HM45.out.sub 1 rfl (fun k u h => by rw [Nat.zero_add]; exact h)) Try.underlying30 rfl (by kernel_rfl) rfl ?_
      simp only [Act.put, List.setIfInBounds_toArray, List.set_cons_succ, List.set_cons_zero]
      refine wpS_this [9] rfl (by kernel_rfl) (by simp only [pickL, nthL, List.cons_append, List.nil_append]; rfl) ?_
      repeat (go_big_quiet_step (fail))
      refine wpQuiet_nil ?_
      refine wpS_does2 (i := 10) (d := some 79) (rem := [_, _, _, _, _]) (out := [_, _, _, _, _, _]) rfl (by rfl) rfl Try.call21 (gtarget_d (rowT elemI _ _) _ j rowT_reads lj k) rfl rfl HM45.out [0] rfl covS_nil rfl rfl ?_
      rintro W47 hm46 -
      rw [htg.out]
      have HM48 := Lib.hid hm46
      clear hm46
      simp only [Act.put, List.setIfInBounds_toArray, List.set_cons_succ, List.set_cons_zero]
      refine wpS_this [11, 12] rfl (by kernel_rfl) (by simp only [pickL, nthL, List.cons_append, List.nil_append]; rfl) ?_
      repeat (go_big_quiet_step (fail))
      refine wpQuiet_nil ?_
      refine wpS_nil ?_
      refine then_normal ?_
      refine wp_cond_false rfl ?_
      refine wp_skip ?_
      refine block_normal ?_
      refine then_normal ?_
      refine wp_region_N [(0, 1), (1, 1)] (by kernel_rfl) ?_
      refine wpS_this [0, 1] rfl (by kernel_rfl) (by simp only [pickL, nthL, List.cons_append, List.nil_append]; rfl) ?_
      repeat (go_big_quiet_step (fail))
      refine wpQuiet_nil ?_
      refine wpS_nil ?_
      refine then_normal ?_
      refine ⟨by kernel_rfl, ?_⟩
      refine ⟨16 - (k + 1), by omega, k + 1, rfl, rfl, hk1, trivial, (Mem.only (M := [_, _, _, _, _, _]) HM48.out [1, 0, 0, 0, 0, 0] rfl)⟩
    · have gm : (if ka < kb then (kb : Int) else (ka : Int)) = ka := if_neg hlt
      replace gm := Lib.hid gm
      have gmm : ((ka : Int) != if (ka : Int) < (kb : Int) then (kb : Int) else (ka : Int)) = false := by rw [if_neg (by omega)]; exact bne_self_eq_false _
      have gmn : ((ka : Int) != if ka < kb then (kb : Int) else (ka : Int)) = false := by rw [if_neg hlt]; exact bne_self_eq_false _
      clear hlt
      refine wp_region_N [(0, 1), (1, 1), (2, 3), (3, 1), (4, 1), (5, 1), (6, 1), (7, 1), (8, 1), (9, 1), (10, 3), (11, 1), (12, 1)] (by kernel_rfl) ?_
      refine wpS_loadA (i := 0) (d := some 69) (cells := rgC (j) (.slice pj 0 cj)) rfl (by rfl) rfl rfl (HM41.out.sub 0 rfl (fun k u h => by rw [Nat.zero_add]; exact h)) Try.underlying30 rfl (by kernel_rfl) rfl ?_
      simp only [Act.put, List.setIfInBounds_toArray, List.set_cons_succ, List.set_cons_zero]
      refine wpS_this [1] rfl (by kernel_rfl) (by simp only [pickL, nthL, List.cons_append, List.nil_append]; rfl) ?_
      repeat (go_big_quiet_step (fail))
      refine wpQuiet_nil ?_
      refine wpS_does2 (i := 2) (d := some 71) (rem := [_, _, _, _, _]) (out := [_, _, _, _, _, _]) rfl (by rfl) rfl Try.call17 (gowner_d (rowT elemI _ _) _ j rowT_reads lj k) rfl rfl HM41.out [1] rfl covS_nil rfl rfl ?_
      rintro W50 hm49 -
      rw [hown.out k (by omega), gm.out]
      have HM51 := Lib.hid hm49
      clear hm49
      simp only [Act.put, List.setIfInBounds_toArray, List.set_cons_succ, List.set_cons_zero]
      refine wpS_this [3, 4, 5, 6, 7] rfl (by kernel_rfl) (by simp only [pickL, nthL, List.cons_append, List.nil_append]; rfl) ?_
      repeat (go_big_quiet_step (fail))
      refine wpQuiet_nil ?_
      refine wpS_loadA (i := 8) (d := some 77) (cells := rgC (j) (.slice pj 0 cj)) rfl (by rfl) rfl rfl (HM51.out.sub 1 rfl (fun k u h => by rw [Nat.zero_add]; exact h)) Try.underlying30 rfl (by kernel_rfl) rfl ?_
      simp only [Act.put, List.setIfInBounds_toArray, List.set_cons_succ, List.set_cons_zero]
      refine wpS_this [9] rfl (by kernel_rfl) (by simp only [pickL, nthL, List.cons_append, List.nil_append]; rfl) ?_
      repeat (go_big_quiet_step (fail))
      refine wpQuiet_nil ?_
      refine wpS_does2 (i := 10) (d := some 79) (rem := [_, _, _, _, _]) (out := [_, _, _, _, _, _]) rfl (by rfl) rfl Try.call21 (gtarget_d (rowT elemI _ _) _ j rowT_reads lj k) rfl rfl HM51.out [0] rfl covS_nil rfl rfl ?_
      rintro W53 hm52 -
      rw [htg.out]
      have HM54 := Lib.hid hm52
      clear hm52
      simp only [Act.put, List.setIfInBounds_toArray, List.set_cons_succ, List.set_cons_zero]
      refine wpS_this [11, 12] rfl (by kernel_rfl) (by simp only [pickL, nthL, List.cons_append, List.nil_append]; rfl) ?_
      repeat (go_big_quiet_step (fail))
      refine wpQuiet_nil ?_
      refine wpS_nil ?_
      refine then_normal ?_
      refine wp_cond_false rfl ?_
      refine wp_skip ?_
      refine block_normal ?_
      refine then_normal ?_
      refine wp_region_N [(0, 1), (1, 1)] (by kernel_rfl) ?_
      refine wpS_this [0, 1] rfl (by kernel_rfl) (by simp only [pickL, nthL, List.cons_append, List.nil_append]; rfl) ?_
      repeat (go_big_quiet_step (fail))
      refine wpQuiet_nil ?_
      refine wpS_nil ?_
      refine then_normal ?_
      refine ⟨by kernel_rfl, ?_⟩
      refine ⟨16 - (k + 1), by omega, k + 1, rfl, rfl, hk1, trivial, (Mem.only (M := [_, _, _, _, _, _]) HM54.out [1, 0, 0, 0, 0, 0] rfl)⟩
  · clear h42
    refine wp_exit ?_
    refine then_exit (then_exit (block_exit ?_))
    refine then_normal ?_
    refine wp_seq ?_
    refine wp_region_N [(0, 1), (1, 1), (2, 3), (3, 1), (4, 1), (5, 1), (6, 3), (7, 3), (8, 1)] (by kernel_rfl) ?_
    refine wpS_this [0, 1] rfl (by kernel_rfl) (by simp only [pickL, nthL, List.cons_append, List.nil_append]; rfl) ?_
    repeat (go_big_quiet_step (fail))
    refine wpQuiet_nil ?_
    refine wpS_doesU1 (i := 2) (d := some 86) (rem := [_, _, _, _, _, _]) rfl (by rfl) rfl Try.call16 (gfirst_d (8 + (ka : Int)) noR false firstR_out) rfl HM41.out [] rfl covS_nil (fun _ => rfl) rfl ?_
    rintro u57 W56 hm55 -
    obtain ⟨pz, cz, rfl, hm55q⟩ := Mem.ringE (n := 0) rfl hm55
    clear hm55
    have HM58 := Lib.hid hm55q
    clear hm55q
    simp only [Act.put, List.setIfInBounds_toArray, List.set_cons_succ, List.set_cons_zero]
    refine wpS_this [3, 4, 5] rfl (by kernel_rfl) (by simp only [pickL, nthL, List.cons_append, List.nil_append]; rfl) ?_
    repeat (go_big_quiet_step (fail))
    refine wpQuiet_nil ?_
    refine wpS_alloc (i := 6) (dd := 11) (z := rgV noR (.slice none 0 0)) (cs := (rgC noR (.slice none 0 0)).toArray) rfl (by rfl) rfl (by kernel_rfl) rfl HM58.out covS_nil rfl ?_
    rintro b61 W60 hm59 -
    have HM62 := Lib.hid hm59
    clear hm59
    simp only [Act.put, List.setIfInBounds_toArray, List.set_cons_succ, List.set_cons_zero]
    refine wpS_storeA (i := 7) (L2 := [_, _, _, _, _, _, _]) (cs' := rgC (noR) (.slice pz 0 cz)) rfl (by rfl) rfl rfl rfl (by kernel_rfl) (rgC_one _ _ _) HM62.out 0 rfl rfl (by kernel_rfl) (by kernel_rfl) covS_nil rfl ?_
    rintro W64 hm63 -
    have HM65 := Lib.hid hm63
    clear hm63
    refine wpS_this [8] rfl (by kernel_rfl) (by simp only [pickL, nthL, List.cons_append, List.nil_append]; rfl) ?_
    repeat (go_big_quiet_step (fail))
    refine wpQuiet_nil ?_
    refine wpS_nil ?_
    refine then_normal ?_
    refine wp_seq ?_
    by_cases hab : ka = kb
    · have g1 : (ka == kb) = true := beq_iff_eq.2 hab
      have g1' : ((ka : Int) == (kb : Int)) = true := beq_iff_eq.2 (by omega)
      have hsm : Hid (sameR (oneR ka) (oneR kb) = true) := Lib.hid ((firsts_same ha8).trans (decide_eq_true hab))
      clear hab
      refine wp_region_N [(0, 1), (1, 1), (2, 1), (3, 1), (4, 1), (5, 3), (6, 1), (7, 1), (8, 1), (9, 1), (10, 1), (11, 1), (12, 1), (13, 3), (14, 1), (15, 1), (16, 3), (17, 1), (18, 1)] (by kernel_rfl) ?_
      refine wpS_this [0, 1, 2] rfl (by kernel_rfl) (by simp only [pickL, nthL, List.cons_append, List.nil_append]; rfl) ?_
      repeat (go_big_quiet_step (fail))
      refine wpQuiet_nil ?_
      refine wpS_loadA (i := 3) (d := some 92) (cells := rgC ((oneR ka)) (.slice px 0 cx)) rfl (by rfl) rfl rfl (HM65.out.sub 4 rfl (fun k u h => by rw [Nat.zero_add]; exact h)) Try.underlying30 rfl (by kernel_rfl) rfl ?_
      simp only [Act.put, List.setIfInBounds_toArray, List.set_cons_succ, List.set_cons_zero]
      refine wpS_loadA (i := 4) (d := some 93) (cells := rgC ((oneR kb)) (.slice py 0 cy)) rfl (by rfl) rfl rfl (HM65.out.sub 5 rfl (fun k u h => by rw [Nat.zero_add]; exact h)) Try.underlying30 rfl (by kernel_rfl) rfl ?_
      simp only [Act.put, List.setIfInBounds_toArray, List.set_cons_succ, List.set_cons_zero]
      refine wpS_does2 (i := 5) (d := some 94) (rem := [_, _, _, _, _, _]) (out := [_, _, _, _, _, _, _, _]) rfl (by rfl) rfl Try.call11 (Does.ofList (gsame_d (listT [_, _]) _ (oneR ka) (srcL 0 rfl rowT_reads) (Nat.zero_le _) _ (oneR kb) (srcL 1 rfl rowT_reads) (Nat.zero_le _))) rfl rfl HM65.out [6, 6] rfl covS_nil rfl rfl ?_
      rintro W67 hm66 -
      rw [hsm.out]
      have HM68 := Lib.hid hm66
      clear hm66
      simp only [Act.put, List.setIfInBounds_toArray, List.set_cons_succ, List.set_cons_zero]
      refine wpS_this [6, 7, 8, 9, 10, 11] rfl (by kernel_rfl) (by simp only [pickL, nthL, List.cons_append, List.nil_append]; rfl) ?_
      repeat (go_big_quiet_step (fail))
      refine wpQuiet_nil ?_
      refine wpS_loadA (i := 12) (d := some 101) (cells := rgC (j) (.slice pj 0 cj)) rfl (by rfl) rfl rfl (HM68.out.sub 4 rfl (fun k u h => by rw [Nat.zero_add]; exact h)) Try.underlying30 rfl (by kernel_rfl) rfl ?_
      simp only [Act.put, List.setIfInBounds_toArray, List.set_cons_succ, List.set_cons_zero]
      refine wpS_does1 (i := 13) (d := some 102) (rem := [_, _, _, _, _, _, _]) (out := [_, _, _, _, _, _, _, _]) rfl (by rfl) rfl Try.call18 (rmayR_d (rowT elemI _ _) _ j rowT_reads lj ) rfl HM68.out [5] rfl covS_nil rfl rfl ?_
      rintro W70 hm69 -
      rw [hmj.out]
      have HM71 := Lib.hid hm69
      clear hm69
      simp only [Act.put, List.setIfInBounds_toArray, List.set_cons_succ, List.set_cons_zero]
      refine wpS_this [14, 15] rfl (by kernel_rfl) (by simp only [pickL, nthL, List.cons_append, List.nil_append]; rfl) ?_
      repeat (go_big_quiet_step (fail))
      refine wpQuiet_nil ?_
      refine wpS_does0 (i := 16) (d := some 105) (rem := [_, _, _, _, _, _, _, _]) (out := [_, _, _, _, _, _, _, _]) rfl (by rfl) rfl Try.call9 (gawake_d)  HM71.out [] rfl covS_nil rfl rfl ?_
      rintro W73 hm72 -
      have HM74 := Lib.hid hm72
      clear hm72
      simp only [Act.put, List.setIfInBounds_toArray, List.set_cons_succ, List.set_cons_zero]
      refine wpS_this [17, 18] rfl (by kernel_rfl) (by simp only [pickL, nthL, List.cons_append, List.nil_append]; rfl) ?_
      repeat (go_big_quiet_step (fail))
      refine wpQuiet_nil ?_
      refine wpS_nil ?_
      refine then_normal ?_
      refine wp_ret ?_
      refine bodyPost_ret (results_tmp rfl _ _ _) rfl ?_
      exact does_ret (Mem.only (M := []) HM74.out [] rfl) rfl rfl
    · have g1 : (ka == kb) = false := beq_eq_false_iff_ne.2 hab
      have g1' : ((ka : Int) == (kb : Int)) = false := beq_eq_false_iff_ne.2 (by omega)
      have hsm : Hid (sameR (oneR ka) (oneR kb) = false) := Lib.hid ((firsts_same ha8).trans (decide_eq_false hab))
      clear hab
      refine wp_region_N [(0, 1), (1, 1), (2, 1), (3, 1), (4, 1), (5, 3), (6, 1), (7, 1), (8, 1), (9, 1), (10, 1), (11, 1), (12, 1), (13, 3), (14, 1), (15, 1), (16, 3), (17, 1), (18, 1)] (by kernel_rfl) ?_
      refine wpS_this [0, 1, 2] rfl (by kernel_rfl) (by simp only [pickL, nthL, List.cons_append, List.nil_append]; rfl) ?_
      repeat (go_big_quiet_step (fail))
      refine wpQuiet_nil ?_
      refine wpS_loadA (i := 3) (d := some 92) (cells := rgC ((oneR ka)) (.slice px 0 cx)) rfl (by rfl) rfl rfl (HM65.out.sub 4 rfl (fun k u h => by rw [Nat.zero_add]; exact h)) Try.underlying30 rfl (by kernel_rfl) rfl ?_
      simp only [Act.put, List.setIfInBounds_toArray, List.set_cons_succ, List.set_cons_zero]
      refine wpS_loadA (i := 4) (d := some 93) (cells := rgC ((oneR kb)) (.slice py 0 cy)) rfl (by rfl) rfl rfl (HM65.out.sub 5 rfl (fun k u h => by rw [Nat.zero_add]; exact h)) Try.underlying30 rfl (by kernel_rfl) rfl ?_
      simp only [Act.put, List.setIfInBounds_toArray, List.set_cons_succ, List.set_cons_zero]
      refine wpS_does2 (i := 5) (d := some 94) (rem := [_, _, _, _, _, _]) (out := [_, _, _, _, _, _, _, _]) rfl (by rfl) rfl Try.call11 (Does.ofList (gsame_d (listT [_, _]) _ (oneR ka) (srcL 0 rfl rowT_reads) (Nat.zero_le _) _ (oneR kb) (srcL 1 rfl rowT_reads) (Nat.zero_le _))) rfl rfl HM65.out [6, 6] rfl covS_nil rfl rfl ?_
      rintro W76 hm75 -
      rw [hsm.out]
      have HM77 := Lib.hid hm75
      clear hm75
      simp only [Act.put, List.setIfInBounds_toArray, List.set_cons_succ, List.set_cons_zero]
      refine wpS_this [6, 7, 8, 9, 10, 11] rfl (by kernel_rfl) (by simp only [pickL, nthL, List.cons_append, List.nil_append]; rfl) ?_
      repeat (go_big_quiet_step (fail))
      refine wpQuiet_nil ?_
      refine wpS_loadA (i := 12) (d := some 101) (cells := rgC (j) (.slice pj 0 cj)) rfl (by rfl) rfl rfl (HM77.out.sub 4 rfl (fun k u h => by rw [Nat.zero_add]; exact h)) Try.underlying30 rfl (by kernel_rfl) rfl ?_
      simp only [Act.put, List.setIfInBounds_toArray, List.set_cons_succ, List.set_cons_zero]
      refine wpS_does1 (i := 13) (d := some 102) (rem := [_, _, _, _, _, _, _]) (out := [_, _, _, _, _, _, _, _]) rfl (by rfl) rfl Try.call18 (rmayR_d (rowT elemI _ _) _ j rowT_reads lj ) rfl HM77.out [5] rfl covS_nil rfl rfl ?_
      rintro W79 hm78 -
      rw [hmj.out]
      have HM80 := Lib.hid hm78
      clear hm78
      simp only [Act.put, List.setIfInBounds_toArray, List.set_cons_succ, List.set_cons_zero]
      refine wpS_this [14, 15] rfl (by kernel_rfl) (by simp only [pickL, nthL, List.cons_append, List.nil_append]; rfl) ?_
      repeat (go_big_quiet_step (fail))
      refine wpQuiet_nil ?_
      refine wpS_does0 (i := 16) (d := some 105) (rem := [_, _, _, _, _, _, _, _]) (out := [_, _, _, _, _, _, _, _]) rfl (by rfl) rfl Try.call9 (gawake_d)  HM80.out [] rfl covS_nil rfl rfl ?_
      rintro W82 hm81 -
      have HM83 := Lib.hid hm81
      clear hm81
      simp only [Act.put, List.setIfInBounds_toArray, List.set_cons_succ, List.set_cons_zero]
      refine wpS_this [17, 18] rfl (by kernel_rfl) (by simp only [pickL, nthL, List.cons_append, List.nil_append]; rfl) ?_
      repeat (go_big_quiet_step (fail))
      refine wpQuiet_nil ?_
      refine wpS_nil ?_
      refine then_normal ?_
      refine wp_ret ?_
      refine bodyPost_ret (results_tmp rfl _ _ _) rfl ?_
      exact does_ret (Mem.only (M := []) HM83.out [] rfl) rfl rfl

end Go.Proofs.Ytihhopoplcelfaa
