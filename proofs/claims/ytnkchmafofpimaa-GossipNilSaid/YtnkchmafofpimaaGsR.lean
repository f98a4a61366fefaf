/- Rings: the reference's Join and Below. -/
import Derived.Test.YtnkchmafofpimaaRgK
namespace Go.Proofs.Ytnkchmafofpimaa
open Go Go.RowKit Go.BigFrame

theorem updK_next {β : Type} (f g : Nat → β) (k i : Nat) : (if i < k + 1 then f i else g i) = upd (fun i => if i < k then f i else g i) k (f k) i := by
  unfold upd
  by_cases h : i = k
  · subst h
    rw [if_pos (by omega), if_pos rfl]
  · rw [if_neg h]
    show _ = (if i < k then f i else g i)
    by_cases h2 : i < k
    · rw [if_pos h2, if_pos (by omega)]
    · rw [if_neg h2, if_neg (by omega)]
set_option maxHeartbeats 4000000 in
set_option maxRecDepth 100000 in
theorem rentcmp_d (a1 a2 b1 b2 : Int) : Does Try.prog 72 #[.agg #[.int .i64 a1, .int .i64 a2], .agg #[.int .i64 b1, .int .i64 b2]] [] (.int .i64 (cmpE (a1, a2) (b1, b2))) [] := by
  intro w H hp
  have HM0 := Lib.hid (mem_refl hp)
  clear hp
  go_enter Try.func72, Try.ntmps72
  refine wp_seq ?_
  refine wp_region_N [(0, 3), (1, 3), (2, 1)] (by kernel_rfl) ?_
  refine wpS_boxA (i := 0) (dd := 2) rfl (by rfl) rfl rfl HM0.out covS_nil rfl ?_
  rintro b3 W2 hm1 -
  have HM4 := Lib.hid hm1
  clear hm1
  simp only [Act.put, List.setIfInBounds_toArray, List.set_cons_succ, List.set_cons_zero]
  refine wpS_boxA (i := 1) (dd := 3) rfl (by rfl) rfl rfl HM4.out covS_nil rfl ?_
  rintro b7 W6 hm5 -
  have HM8 := Lib.hid hm5
  clear hm5
  simp only [Act.put, List.setIfInBounds_toArray, List.set_cons_succ, List.set_cons_zero]
  refine wpS_this [2] rfl (by kernel_rfl) (by simp only [pickL, nthL, List.cons_append, List.nil_append]; rfl) ?_
  repeat (go_big_quiet_step (fail))
  refine wpQuiet_nil ?_
  refine wpS_nil ?_
  refine then_normal ?_
  refine wp_seq ?_
  refine wp_seq ?_
  by_cases h1 : a1 = b1
  · have g1 : (a1 != b1) = false := by rw [h1]; exact bne_self_eq_false _
    have hc : Hid (cmpE (a1, a2) (b1, b2) = cmpI a2 b2) := Lib.hid (orI_next ((cmpI_zero _ _).2 h1))
    clear h1
    refine wp_region_N [(0, 1), (1, 1), (2, 1), (3, 1), (4, 1)] (by kernel_rfl) ?_
    have Cb2 := Mem.cell HM8.out 1 rfl
    have Cb3 := Mem.cell HM8.out 0 rfl
    refine wpS_this [0, 1, 2, 3, 4] rfl (by kernel_rfl) (by simp only [pickL, nthL, List.cons_append, List.nil_append]; rfl) ?_
    repeat (go_big_quiet_step (fail))
    refine wpQuiet_nil ?_
    clear Cb2 Cb3
    refine wpS_nil ?_
    refine then_normal ?_
    refine wp_cond_false rfl ?_
    refine wp_skip ?_
    refine then_normal ?_
    refine wp_seq ?_
    refine wp_region_N [(0, 1), (1, 1), (2, 1), (3, 1), (4, 3), (5, 1)] (by kernel_rfl) ?_
    have Cb2 := Mem.cell HM8.out 1 rfl
    have Cb3 := Mem.cell HM8.out 0 rfl
    refine wpS_this [0, 1, 2, 3] rfl (by kernel_rfl) (by simp only [pickL, nthL, List.cons_append, List.nil_append]; rfl) ?_
    repeat (go_big_quiet_step (fail))
    refine wpQuiet_nil ?_
    clear Cb2 Cb3
    refine wpS_does2 (i := 4) (d := some 19) (rem := [_, _]) (out := [_, _]) rfl (by rfl) rfl Try.call76 (rcmp_d a2 b2) rfl rfl HM8.out [] rfl covS_nil rfl rfl ?_
    rintro W10 hm9 -
    have HM11 := Lib.hid hm9
    clear hm9
    simp only [Act.put, List.setIfInBounds_toArray, List.set_cons_succ, List.set_cons_zero]
    refine wpS_this [5] rfl (by kernel_rfl) (by simp only [pickL, nthL, List.cons_append, List.nil_append]; rfl) ?_
    repeat (go_big_quiet_step (fail))
    refine wpQuiet_nil ?_
    refine wpS_nil ?_
    refine then_normal ?_
    refine wp_ret ?_
    refine bodyPost_ret (results_tmp rfl _ _ _) rfl ?_
    rw [hc.out]
    exact does_ret (Mem.only (M := []) HM11.out [] rfl) rfl rfl
  · have g1 : (a1 != b1) = true := bne_iff_ne.2 h1
    have hc : Hid (cmpE (a1, a2) (b1, b2) = cmpI a1 b1) := Lib.hid (orI_self fun q => h1 ((cmpI_zero _ _).1 q))
    clear h1
    refine wp_region_N [(0, 1), (1, 1), (2, 1), (3, 1), (4, 1)] (by kernel_rfl) ?_
    have Cb2 := Mem.cell HM8.out 1 rfl
    have Cb3 := Mem.cell HM8.out 0 rfl
    refine wpS_this [0, 1, 2, 3, 4] rfl (by kernel_rfl) (by simp only [pickL, nthL, List.cons_append, List.nil_append]; rfl) ?_
    repeat (go_big_quiet_step (fail))
    refine wpQuiet_nil ?_
    clear Cb2 Cb3
    refine wpS_nil ?_
    refine then_normal ?_
    refine wp_cond_true rfl ?_
    refine wp_seq ?_
    refine wp_region_N [(0, 1), (1, 1), (2, 1), (3, 1), (4, 3), (5, 1)] (by kernel_rfl) ?_
    have Cb2 := Mem.cell HM8.out 1 rfl
    have Cb3 := Mem.cell HM8.out 0 rfl
    refine wpS_this [0, 1, 2, 3] rfl (by kernel_rfl) (by simp only [pickL, nthL, List.cons_append, List.nil_append]; rfl) ?_
    repeat (go_big_quiet_step (fail))
    refine wpQuiet_nil ?_
    clear Cb2 Cb3
    refine wpS_does2 (i := 4) (d := some 14) (rem := [_, _]) (out := [_, _]) rfl (by rfl) rfl Try.call76 (rcmp_d a1 b1) rfl rfl HM8.out [] rfl covS_nil rfl rfl ?_
    rintro W13 hm12 -
    have HM14 := Lib.hid hm12
    clear hm12
    simp only [Act.put, List.setIfInBounds_toArray, List.set_cons_succ, List.set_cons_zero]
    refine wpS_this [5] rfl (by kernel_rfl) (by simp only [pickL, nthL, List.cons_append, List.nil_append]; rfl) ?_
    repeat (go_big_quiet_step (fail))
    refine wpQuiet_nil ?_
    refine wpS_nil ?_
    refine then_normal ?_
    refine wp_ret ?_
    refine then_ret ?_
    refine bodyPost_ret (results_tmp rfl _ _ _) rfl ?_
    rw [hc.out]
    exact does_ret (Mem.only (M := []) HM14.out [] rfl) rfl rfl

set_option maxHeartbeats 4000000 in
set_option maxRecDepth 100000 in
theorem rentjoin_d (a1 a2 b1 b2 j1 j2 : Int) (hj : joinE (a1, a2) (b1, b2) = (j1, j2)) : Does Try.prog 59 #[.agg #[.int .i64 a1, .int .i64 a2], .agg #[.int .i64 b1, .int .i64 b2]] [] (.agg #[.int .i64 j1, .int .i64 j2]) [] := by
  intro w H hp
  have HM0 := Lib.hid (mem_refl hp)
  clear hp
  go_enter Try.func59, Try.ntmps59
  refine wp_seq ?_
  refine wp_region_N [(0, 3), (1, 3), (2, 3)] (by kernel_rfl) ?_
  refine wpS_boxA (i := 0) (dd := 2) rfl (by rfl) rfl rfl HM0.out covS_nil rfl ?_
  rintro b3 W2 hm1 -
  have HM4 := Lib.hid hm1
  clear hm1
  simp only [Act.put, List.setIfInBounds_toArray, List.set_cons_succ, List.set_cons_zero]
  refine wpS_boxA (i := 1) (dd := 3) rfl (by rfl) rfl rfl HM4.out covS_nil rfl ?_
  rintro b7 W6 hm5 -
  have HM8 := Lib.hid hm5
  clear hm5
  simp only [Act.put, List.setIfInBounds_toArray, List.set_cons_succ, List.set_cons_zero]
  refine wpS_alloc (i := 2) (dd := 4) (z := .agg #[.int .i64 0, .int .i64 0]) (cs := #[.int .i64 0, .int .i64 0]) rfl (by rfl) rfl (by kernel_rfl) rfl HM8.out covS_nil rfl ?_
  rintro b11 W10 hm9 -
  have HM12 := Lib.hid hm9
  clear hm9
  simp only [Act.put, List.setIfInBounds_toArray, List.set_cons_succ, List.set_cons_zero]
  refine wpS_nil ?_
  refine then_normal ?_
  refine wp_seq ?_
  refine wp_seq ?_
  by_cases h1 : 0 < cmpE (b1, b2) (a1, a2)
  · have g1 : decide (0 < cmpE (b1, b2) (a1, a2)) = true := decide_eq_true h1
    have hc := Lib.hid (hj.symm.trans (show joinE (a1, a2) (b1, b2) = (b1, b2) from if_pos h1))
    clear h1 hj
    refine wp_region_N [(0, 1), (1, 1), (2, 3), (3, 1)] (by kernel_rfl) ?_
    have Cb3 := Mem.cell HM12.out 1 rfl
    have Cb2 := Mem.cell HM12.out 2 rfl
    refine wpS_this [0, 1] rfl (by kernel_rfl) (by simp only [pickL, nthL, List.cons_append, List.nil_append]; rfl) ?_
    repeat (go_big_quiet_step (fail))
    refine wpQuiet_nil ?_
    clear Cb3 Cb2
    refine wpS_does2 (i := 2) (d := some 7) (rem := [_, _, _]) (out := [_, _, _]) rfl (by rfl) rfl Try.call72 (rentcmp_d b1 b2 a1 a2) rfl rfl HM12.out [] rfl covS_nil rfl rfl ?_
    rintro W14 hm13 -
    have HM15 := Lib.hid hm13
    clear hm13
    simp only [Act.put, List.setIfInBounds_toArray, List.set_cons_succ, List.set_cons_zero]
    refine wpS_this [3] rfl (by kernel_rfl) (by simp only [pickL, nthL, List.cons_append, List.nil_append]; rfl) ?_
    repeat (go_big_quiet_step (fail))
    refine wpQuiet_nil ?_
    refine wpS_nil ?_
    refine then_normal ?_
    refine wp_cond_true rfl ?_
    refine wp_seq ?_
    refine wp_region_N [(0, 1), (1, 3)] (by kernel_rfl) ?_
    have Cb3 := Mem.cell HM15.out 1 rfl
    refine wpS_this [0] rfl (by kernel_rfl) (by simp only [pickL, nthL, List.cons_append, List.nil_append]; rfl) ?_
    repeat (go_big_quiet_step (fail))
    refine wpQuiet_nil ?_
    clear Cb3
    refine wpS_storeA (i := 1) (L2 := [_, _]) (cs' := [_, _]) rfl (by rfl) rfl rfl rfl (by kernel_rfl) (by rfl) HM15.out 0 rfl rfl rfl rfl covS_nil rfl ?_
    rintro W17 hm16 -
    have HM18 := Lib.hid hm16
    clear hm16
    refine wpS_nil ?_
    refine then_normal ?_
    refine wp_ret ?_
    refine then_ret ?_
    refine ret_cell rfl HM18.out 0 rfl rfl Try.underlying34 rfl (by kernel_rfl) rfl ?_
    have e1 := congrArg Prod.fst hc.out
    have e2 := congrArg Prod.snd hc.out
    dsimp only at e1 e2
    rw [e1, e2]
    exact does_ret (Mem.only (M := []) HM18.out [] rfl) rfl rfl
  · have g1 : decide (0 < cmpE (b1, b2) (a1, a2)) = false := decide_eq_false h1
    have hc := Lib.hid (hj.symm.trans (show joinE (a1, a2) (b1, b2) = (a1, a2) from if_neg h1))
    clear h1 hj
    refine wp_region_N [(0, 1), (1, 1), (2, 3), (3, 1)] (by kernel_rfl) ?_
    have Cb3 := Mem.cell HM12.out 1 rfl
    have Cb2 := Mem.cell HM12.out 2 rfl
    refine wpS_this [0, 1] rfl (by kernel_rfl) (by simp only [pickL, nthL, List.cons_append, List.nil_append]; rfl) ?_
    repeat (go_big_quiet_step (fail))
    refine wpQuiet_nil ?_
    clear Cb3 Cb2
    refine wpS_does2 (i := 2) (d := some 7) (rem := [_, _, _]) (out := [_, _, _]) rfl (by rfl) rfl Try.call72 (rentcmp_d b1 b2 a1 a2) rfl rfl HM12.out [] rfl covS_nil rfl rfl ?_
    rintro W20 hm19 -
    have HM21 := Lib.hid hm19
    clear hm19
    simp only [Act.put, List.setIfInBounds_toArray, List.set_cons_succ, List.set_cons_zero]
    refine wpS_this [3] rfl (by kernel_rfl) (by simp only [pickL, nthL, List.cons_append, List.nil_append]; rfl) ?_
    repeat (go_big_quiet_step (fail))
    refine wpQuiet_nil ?_
    refine wpS_nil ?_
    refine then_normal ?_
    refine wp_cond_false rfl ?_
    refine wp_skip ?_
    refine then_normal ?_
    refine wp_seq ?_
    refine wp_region_N [(0, 1), (1, 3)] (by kernel_rfl) ?_
    have Cb2 := Mem.cell HM21.out 2 rfl
    refine wpS_this [0] rfl (by kernel_rfl) (by simp only [pickL, nthL, List.cons_append, List.nil_append]; rfl) ?_
    repeat (go_big_quiet_step (fail))
    refine wpQuiet_nil ?_
    clear Cb2
    refine wpS_storeA (i := 1) (L2 := [_, _]) (cs' := [_, _]) rfl (by rfl) rfl rfl rfl (by kernel_rfl) (by rfl) HM21.out 0 rfl rfl rfl rfl covS_nil rfl ?_
    rintro W23 hm22 -
    have HM24 := Lib.hid hm22
    clear hm22
    refine wpS_nil ?_
    refine then_normal ?_
    refine wp_ret ?_
    refine ret_cell rfl HM24.out 0 rfl rfl Try.underlying34 rfl (by kernel_rfl) rfl ?_
    have e1 := congrArg Prod.fst hc.out
    have e2 := congrArg Prod.snd hc.out
    dsimp only at e1 e2
    rw [e1, e2]
    exact does_ret (Mem.only (M := []) HM24.out [] rfl) rfl rfl

set_option maxHeartbeats 4000000 in
set_option maxRecDepth 100000 in
theorem rjoin_d (R : At) (va : Value) (a1 a2 : Int) (sa : List Int) (ha : Reads elemI R va sa) (la : sa.length ≤ 1000) (vb : Value) (b1 b2 : Int) (sb : List Int) (hb : Reads elemI R vb sb) (lb : sb.length ≤ 1000) (j1 j2 : Int) (sj : List Int) (hj : joinP (a1, a2, sa) (b1, b2, sb) = (j1, j2, sj)) : DoesU Try.prog 58 #[.agg #[.int .i64 a1, .int .i64 a2, va], .agg #[.int .i64 b1, .int .i64 b2, vb]] [R] (fun u => [planT u (j1, j2, sj), R]) := by
  intro w H hp
  have HM0 := Lib.hid (mem_refl hp)
  clear hp
  obtain ⟨pa, ca, rfl⟩ := row_form (Mem.src HM0.out 0 rfl ha)
  obtain ⟨pb, cb, rfl⟩ := row_form (Mem.src HM0.out 0 rfl hb)
  go_enter Try.func58, Try.ntmps58
  refine wp_seq ?_
  refine wp_region_N [(0, 3), (1, 3), (2, 3)] (by kernel_rfl) ?_
  refine wpS_boxA (i := 0) (dd := 2) rfl (by rfl) rfl rfl HM0.out covS_nil rfl ?_
  rintro b3 W2 hm1 -
  have HM4 := Lib.hid hm1
  clear hm1
  simp only [Act.put, List.setIfInBounds_toArray, List.set_cons_succ, List.set_cons_zero]
  refine wpS_boxA (i := 1) (dd := 3) rfl (by rfl) rfl rfl HM4.out covS_nil rfl ?_
  rintro b7 W6 hm5 -
  have HM8 := Lib.hid hm5
  clear hm5
  simp only [Act.put, List.setIfInBounds_toArray, List.set_cons_succ, List.set_cons_zero]
  refine wpS_alloc (i := 2) (dd := 4) (z := .agg #[.int .i64 0, .int .i64 0, .slice none 0 0]) (cs := #[.int .i64 0, .int .i64 0, .slice none 0 0]) rfl (by rfl) rfl (by kernel_rfl) rfl HM8.out covS_nil rfl ?_
  rintro b11 W10 hm9 -
  have HM12 := Lib.hid hm9
  clear hm9
  simp only [Act.put, List.setIfInBounds_toArray, List.set_cons_succ, List.set_cons_zero]
  refine wpS_nil ?_
  refine then_normal ?_
  refine wp_seq ?_
  refine wp_seq ?_
  rcases join_ways (a1, a2, sa) (b1, b2, sb) with ⟨h1, h2⟩ | ⟨h1, h2⟩
  · have g1 : decide (0 < cmpP (b1, b2, sb) (a1, a2, sa)) = true := decide_eq_true h1
    have hq := hj.symm.trans h2
    simp only [Prod.mk.injEq] at hq
    obtain ⟨r1, r2, r3⟩ := hq
    subst j1
    subst j2
    subst sj
    clear h1 h2 hj
    refine wp_region_N [(0, 1), (1, 1), (2, 3), (3, 1)] (by kernel_rfl) ?_
    have Cb3 := Mem.cell HM12.out 1 rfl
    have Cb2 := Mem.cell HM12.out 2 rfl
    refine wpS_this [0, 1] rfl (by kernel_rfl) (by simp only [pickL, nthL, List.cons_append, List.nil_append]; rfl) ?_
    repeat (go_big_quiet_step (fail))
    refine wpQuiet_nil ?_
    clear Cb3 Cb2
    refine wpS_does2 (i := 2) (d := some 7) (rem := [_, _, _]) (out := [_, _, _, _]) rfl (by rfl) rfl Try.call70 (rcompare_d R _ b1 b2 sb hb lb _ a1 a2 sa ha la) rfl rfl HM12.out [3] rfl covS_nil rfl rfl ?_
    rintro W14 hm13 -
    have HM15 := Lib.hid hm13
    clear hm13
    simp only [Act.put, List.setIfInBounds_toArray, List.set_cons_succ, List.set_cons_zero]
    refine wpS_this [3] rfl (by kernel_rfl) (by simp only [pickL, nthL, List.cons_append, List.nil_append]; rfl) ?_
    repeat (go_big_quiet_step (fail))
    refine wpQuiet_nil ?_
    refine wpS_nil ?_
    refine then_normal ?_
    refine wp_cond_true rfl ?_
    refine wp_region_N [(0, 1), (1, 3)] (by kernel_rfl) ?_
    have Cb3 := Mem.cell HM15.out 2 rfl
    refine wpS_this [0] rfl (by kernel_rfl) (by simp only [pickL, nthL, List.cons_append, List.nil_append]; rfl) ?_
    repeat (go_big_quiet_step (fail))
    refine wpQuiet_nil ?_
    clear Cb3
    refine wpS_storeA (i := 1) (L2 := [_, _, _]) (cs' := [_, _, _]) rfl (by rfl) rfl rfl rfl (by kernel_rfl) (by rfl) HM15.out 3 rfl rfl rfl rfl covS_nil rfl ?_
    rintro W17 hm16 -
    have HM18 := Lib.hid hm16
    clear hm16
    refine wpS_nil ?_
    refine then_normal ?_
    refine wp_seq ?_
    refine wp_region_N [(0, 1), (1, 1), (2, 3), (3, 1), (4, 3)] (by kernel_rfl) ?_
    have Cb2 := Mem.cell HM18.out 0 rfl
    refine wpS_this [0, 1] rfl (by kernel_rfl) (by simp only [pickL, nthL, List.cons_append, List.nil_append]; rfl) ?_
    repeat (go_big_quiet_step (fail))
    refine wpQuiet_nil ?_
    clear Cb2
    have hn21 := Mem.nilRow elemI HM18.out
    have HM22 := Lib.hid hn21
    clear hn21
    refine wpS_append (E := elemI) (i := 2) (d := some 12) (L2 := [_, _, _, _]) rfl (by rfl) rfl HM22.out 0 rfl rfl ((HM22.out.src 2 rfl hb)) rfl (by show (0 + sb.length) * 8 ≤ _; omega) rfl covS_nil rfl ?_
    rintro v23 W24 hm25 -
    rw [List.nil_append] at hm25
    obtain ⟨q, k, rfl⟩ := row_form (Mem.src hm25 0 rfl rowT_reads)
    have HM26 := Lib.hid hm25
    clear hm25
    simp only [Act.put, List.setIfInBounds_toArray, List.set_cons_succ, List.set_cons_zero]
    refine wpS_this [3] rfl (by kernel_rfl) (by simp only [pickL, nthL, List.cons_append, List.nil_append]; rfl) ?_
    repeat (go_big_quiet_step (fail))
    refine wpQuiet_nil ?_
    refine wpS_store1 (i := 4) (L2 := [_, _, _, _]) (cs' := [.int .i64 b1, .int .i64 b2, .slice q sb.length k]) rfl (by rfl) rfl rfl rfl rfl (by kernel_rfl) rfl HM26.out 1 rfl rfl rfl rfl covS_nil rfl ?_
    rintro W28 hm27 -
    have HM29 := Lib.hid hm27
    clear hm27
    refine wpS_nil ?_
    refine then_normal ?_
    refine wp_seq ?_
    refine wp_region_N [(0, 1), (1, 3)] (by kernel_rfl) ?_
    have Cb2 := Mem.cell HM29.out 0 rfl
    refine wpS_this [0] rfl (by kernel_rfl) (by simp only [pickL, nthL, List.cons_append, List.nil_append]; rfl) ?_
    repeat (go_big_quiet_step (fail))
    refine wpQuiet_nil ?_
    clear Cb2
    refine wpS_storeA (i := 1) (L2 := [_, _, _, _]) (cs' := [_, _, _]) rfl (by rfl) rfl rfl rfl (by kernel_rfl) (by rfl) HM29.out 3 rfl rfl rfl rfl covS_nil rfl ?_
    rintro W31 hm30 -
    have HM32 := Lib.hid hm30
    clear hm30
    refine wpS_nil ?_
    refine then_normal ?_
    refine wp_ret ?_
    refine ret_cell rfl HM32.out 0 rfl rfl Try.underlying32 rfl (by kernel_rfl) rfl ?_
    exact doesU_ret (post := fun u => [planT u (b1, b2, sb), R]) (Mem.toPlan (Mem.only (M := [_, _]) HM32.out [2, 2] rfl)) rfl
  · have g1 : decide (0 < cmpP (b1, b2, sb) (a1, a2, sa)) = false := decide_eq_false h1
    have hq := hj.symm.trans h2
    simp only [Prod.mk.injEq] at hq
    obtain ⟨r1, r2, r3⟩ := hq
    subst j1
    subst j2
    subst sj
    clear h1 h2 hj
    refine wp_region_N [(0, 1), (1, 1), (2, 3), (3, 1)] (by kernel_rfl) ?_
    have Cb3 := Mem.cell HM12.out 1 rfl
    have Cb2 := Mem.cell HM12.out 2 rfl
    refine wpS_this [0, 1] rfl (by kernel_rfl) (by simp only [pickL, nthL, List.cons_append, List.nil_append]; rfl) ?_
    repeat (go_big_quiet_step (fail))
    refine wpQuiet_nil ?_
    clear Cb3 Cb2
    refine wpS_does2 (i := 2) (d := some 7) (rem := [_, _, _]) (out := [_, _, _, _]) rfl (by rfl) rfl Try.call70 (rcompare_d R _ b1 b2 sb hb lb _ a1 a2 sa ha la) rfl rfl HM12.out [3] rfl covS_nil rfl rfl ?_
    rintro W34 hm33 -
    have HM35 := Lib.hid hm33
    clear hm33
    simp only [Act.put, List.setIfInBounds_toArray, List.set_cons_succ, List.set_cons_zero]
    refine wpS_this [3] rfl (by kernel_rfl) (by simp only [pickL, nthL, List.cons_append, List.nil_append]; rfl) ?_
    repeat (go_big_quiet_step (fail))
    refine wpQuiet_nil ?_
    refine wpS_nil ?_
    refine then_normal ?_
    refine wp_cond_false rfl ?_
    refine wp_skip ?_
    refine then_normal ?_
    refine wp_seq ?_
    refine wp_region_N [(0, 1), (1, 1), (2, 3), (3, 1), (4, 3)] (by kernel_rfl) ?_
    have Cb2 := Mem.cell HM35.out 3 rfl
    refine wpS_this [0, 1] rfl (by kernel_rfl) (by simp only [pickL, nthL, List.cons_append, List.nil_append]; rfl) ?_
    repeat (go_big_quiet_step (fail))
    refine wpQuiet_nil ?_
    clear Cb2
    have hn38 := Mem.nilRow elemI HM35.out
    have HM39 := Lib.hid hn38
    clear hn38
    refine wpS_append (E := elemI) (i := 2) (d := some 12) (L2 := [_, _, _, _]) rfl (by rfl) rfl HM39.out 0 rfl rfl ((HM39.out.src 1 rfl ha)) rfl (by show (0 + sa.length) * 8 ≤ _; omega) rfl covS_nil rfl ?_
    rintro v40 W41 hm42 -
    rw [List.nil_append] at hm42
    obtain ⟨q, k, rfl⟩ := row_form (Mem.src hm42 0 rfl rowT_reads)
    have HM43 := Lib.hid hm42
    clear hm42
    simp only [Act.put, List.setIfInBounds_toArray, List.set_cons_succ, List.set_cons_zero]
    refine wpS_this [3] rfl (by kernel_rfl) (by simp only [pickL, nthL, List.cons_append, List.nil_append]; rfl) ?_
    repeat (go_big_quiet_step (fail))
    refine wpQuiet_nil ?_
    refine wpS_store1 (i := 4) (L2 := [_, _, _, _]) (cs' := [.int .i64 a1, .int .i64 a2, .slice q sa.length k]) rfl (by rfl) rfl rfl rfl rfl (by kernel_rfl) rfl HM43.out 4 rfl rfl rfl rfl covS_nil rfl ?_
    rintro W45 hm44 -
    have HM46 := Lib.hid hm44
    clear hm44
    refine wpS_nil ?_
    refine then_normal ?_
    refine wp_seq ?_
    refine wp_region_N [(0, 1), (1, 3)] (by kernel_rfl) ?_
    have Cb2 := Mem.cell HM46.out 0 rfl
    refine wpS_this [0] rfl (by kernel_rfl) (by simp only [pickL, nthL, List.cons_append, List.nil_append]; rfl) ?_
    repeat (go_big_quiet_step (fail))
    refine wpQuiet_nil ?_
    clear Cb2
    refine wpS_storeA (i := 1) (L2 := [_, _, _, _]) (cs' := [_, _, _]) rfl (by rfl) rfl rfl rfl (by kernel_rfl) (by rfl) HM46.out 3 rfl rfl rfl rfl covS_nil rfl ?_
    rintro W48 hm47 -
    have HM49 := Lib.hid hm47
    clear hm47
    refine wpS_nil ?_
    refine then_normal ?_
    refine wp_ret ?_
    refine ret_cell rfl HM49.out 0 rfl rfl Try.underlying32 rfl (by kernel_rfl) rfl ?_
    exact doesU_ret (post := fun u => [planT u (a1, a2, sa), R]) (Mem.toPlan (Mem.only (M := [_, _]) HM49.out [2, 2] rfl)) rfl

set_option maxHeartbeats 4000000 in
set_option maxRecDepth 100000 in
theorem rjoinR_d (R : At) (va : Value) (a : Rg) (ha : Reads elemI R va a.p.2.2) (la : a.p.2.2.length ≤ 1000) (vb : Value) (b : Rg) (hb : Reads elemI R vb b.p.2.2) (lb : b.p.2.2.length ≤ 1000) (j : Rg) (hj : joinR a b = j) : DoesU Try.prog 32 #[rgV a va, rgV b vb] [R] (fun u => [ringT u j, R]) := by
  intro w H hp
  have HM0 := Lib.hid (mem_refl hp)
  clear hp
  obtain ⟨pa, ca, rfl⟩ := row_form (Mem.src HM0.out 0 rfl ha)
  obtain ⟨pb, cb, rfl⟩ := row_form (Mem.src HM0.out 0 rfl hb)
  go_enter Try.func32, Try.ntmps32
  refine wp_seq ?_
  have hjp : Hid (joinP (a.p.1, a.p.2.1, a.p.2.2) (b.p.1, b.p.2.1, b.p.2.2) = (j.p.1, j.p.2.1, j.p.2.2)) := Lib.hid (by rw [← hj]; rfl)
  have hjs : Hid (∀ k, (if a.s k < b.s k then b.s k else a.s k) = j.s k) := Lib.hid (fun k => by rw [← hj]; show _ = max (a.s k) (b.s k); split <;> omega)
  have hje : Hid (∀ k, joinE ((a.e k).1, (a.e k).2) ((b.e k).1, (b.e k).2) = ((j.e k).1, (j.e k).2)) := Lib.hid (fun k => by rw [← hj]; rfl)
  clear hj
  refine wp_region_N [(0, 3), (1, 3), (2, 3)] (by kernel_rfl) ?_
  refine wpS_boxA (i := 0) (dd := 2) rfl (by rfl) rfl rfl HM0.out covS_nil rfl ?_
  rintro b3 W2 hm1 -
  have HM4 := Lib.hid hm1
  clear hm1
  simp only [Act.put, List.setIfInBounds_toArray, List.set_cons_succ, List.set_cons_zero]
  refine wpS_boxA (i := 1) (dd := 3) rfl (by rfl) rfl rfl HM4.out covS_nil rfl ?_
  rintro b7 W6 hm5 -
  have HM8 := Lib.hid hm5
  clear hm5
  simp only [Act.put, List.setIfInBounds_toArray, List.set_cons_succ, List.set_cons_zero]
  refine wpS_alloc (i := 2) (dd := 4) (z := rgV noR (.slice none 0 0)) (cs := (rgC noR (.slice none 0 0)).toArray) rfl (by rfl) rfl (by kernel_rfl) rfl HM8.out covS_nil rfl ?_
  rintro b11 W10 hm9 -
  have HM12 := Lib.hid hm9
  clear hm9
  simp only [Act.put, List.setIfInBounds_toArray, List.set_cons_succ, List.set_cons_zero]
  refine wpS_nil ?_
  refine then_normal ?_
  refine wp_seq ?_
  refine wp_region_N [(0, 1), (1, 3), (2, 3)] (by kernel_rfl) ?_
  refine wpS_loadA (i := 0) (d := some 8) (cells := rgC (a) (.slice pa a.p.2.2.length ca)) rfl (by rfl) rfl rfl (HM12.out.sub 2 rfl (fun k u h => by rw [Nat.zero_add]; exact h)) Try.underlying37 rfl (by kernel_rfl) rfl ?_
  simp only [Act.put, List.setIfInBounds_toArray, List.set_cons_succ, List.set_cons_zero]
  refine wpS_alloc (i := 1) (dd := 5) (z := rgV noR (.slice none 0 0)) (cs := (rgC noR (.slice none 0 0)).toArray) rfl (by rfl) rfl (by kernel_rfl) rfl HM12.out covS_nil rfl ?_
  rintro b15 W14 hm13 -
  have HM16 := Lib.hid hm13
  clear hm13
  simp only [Act.put, List.setIfInBounds_toArray, List.set_cons_succ, List.set_cons_zero]
  refine wpS_storeA (i := 2) (L2 := [_, _, _, _]) (cs' := rgC (a) (.slice pa a.p.2.2.length ca)) rfl (by rfl) rfl rfl rfl (by kernel_rfl) (rgC_one _ _ _) HM16.out 0 rfl rfl (by kernel_rfl) (by kernel_rfl) covS_nil rfl ?_
  rintro W18 hm17 -
  have HM19 := Lib.hid hm17
  clear hm17
  refine wpS_nil ?_
  refine then_normal ?_
  refine wp_seq ?_
  refine wp_region_N [(0, 1), (1, 1), (2, 1), (3, 1), (4, 3), (5, 1), (6, 3)] (by kernel_rfl) ?_
  refine wpS_this [0] rfl (by kernel_rfl) (by simp only [pickL, nthL, List.cons_append, List.nil_append]; rfl) ?_
  repeat (go_big_quiet_step (fail))
  refine wpQuiet_nil ?_
  refine wpS_loadA (i := 1) (d := some 10) (cells := plC (a).p (.slice pa a.p.2.2.length ca)) rfl (by rfl) rfl rfl (HM19.out.sub 3 rfl (rgC_pl)) Try.underlying32 rfl (by kernel_rfl) rfl ?_
  dsimp only [plC]
  simp only [Act.put, List.setIfInBounds_toArray, List.set_cons_succ, List.set_cons_zero]
  refine wpS_this [2] rfl (by kernel_rfl) (by simp only [pickL, nthL, List.cons_append, List.nil_append]; rfl) ?_
  repeat (go_big_quiet_step (fail))
  refine wpQuiet_nil ?_
  refine wpS_loadA (i := 3) (d := some 12) (cells := plC (b).p (.slice pb b.p.2.2.length cb)) rfl (by rfl) rfl rfl (HM19.out.sub 2 rfl (rgC_pl)) Try.underlying32 rfl (by kernel_rfl) rfl ?_
  dsimp only [plC]
  simp only [Act.put, List.setIfInBounds_toArray, List.set_cons_succ, List.set_cons_zero]
  refine wpS_doesU2 (i := 4) (d := some 13) (rem := [_, _, _, _]) rfl (by rfl) rfl Try.call58 (rjoin_d R _ a.p.1 a.p.2.1 a.p.2.2 ha la _ b.p.1 b.p.2.1 b.p.2.2 hb lb j.p.1 j.p.2.1 j.p.2.2 hjp.out) rfl rfl HM19.out [4] rfl covS_nil (fun _ => rfl) rfl ?_
  rintro u22 W21 hm20 -
  obtain ⟨pj, cj, rfl, hm20q⟩ := Mem.plan rfl hm20
  clear hm20
  have HM23 := Lib.hid hm20q
  clear hm20q
  simp only [Act.put, List.setIfInBounds_toArray, List.set_cons_succ, List.set_cons_zero]
  refine wpS_this [5] rfl (by kernel_rfl) (by simp only [pickL, nthL, List.cons_append, List.nil_append]; rfl) ?_
  repeat (go_big_quiet_step (fail))
  refine wpQuiet_nil ?_
  refine wpS_storeA (i := 6) (L2 := [_, _, _, _, _]) (cs' := rgC (⟨a.s, j.p, a.e⟩) (.slice pj j.p.2.2.length cj)) rfl (by rfl) rfl rfl rfl (by kernel_rfl) (by rfl) HM23.out 2 rfl rfl (Nat.ble_eq_true_of_le (by rw [rgC_len]; show _ + 3 ≤ _; omega)) (rgC_setP (j.p) (.slice pj j.p.2.2.length cj)) covS_nil rfl ?_
  rintro W25 hm24 -
  have HM26 := Lib.hid hm24
  clear hm24
  refine wpS_nil ?_
  refine then_normal ?_
  refine wp_seq ?_
  refine wp_seq ?_
  refine wp_region_N [(0, 1)] (by kernel_rfl) ?_
  refine wpS_this [0] rfl (by kernel_rfl) (by simp only [pickL, nthL, List.cons_append, List.nil_append]; rfl) ?_
  repeat (go_big_quiet_step (fail))
  refine wpQuiet_nil ?_
  refine wpS_nil ?_
  refine then_normal ?_
  refine wp_block ?_
  refine wp_loop_F [6, 15, 16, 17, 18, 19, 20, 21, 22, 23, 24, 25, 26, 27, 28, 29, 30] (fun n vs W' => ∃ k : Nat, n = 8 - k ∧ vs 15 = .int .i64 (k : Int) ∧ k ≤ 8 ∧ Mem [boxT b15 (.cells (rgC ⟨(fun i => if i < k then j.s i else a.s i), j.p, a.e⟩ (.slice pj j.p.2.2.length cj)).toArray 37 (0, 0)), rowT elemI (.slice pj j.p.2.2.length cj) j.p.2.2, boxT b7 (.cells (rgC b (.slice pb b.p.2.2.length cb)).toArray 37 (0, 0)), boxT b3 (.cells (rgC a (.slice pa a.p.2.2.length ca)).toArray 37 (0, 0)), boxT b11 (.cells (rgC noR (.slice none 0 0)).toArray 37 (0, 0)), R] H w W') (n0 := 8) ?_ ?_
  · refine ⟨0, rfl, rfl, Nat.zero_le _, ?_⟩
    rw [show rgC ⟨(fun i => if i < 0 then j.s i else a.s i), j.p, a.e⟩ (.slice pj j.p.2.2.length cj) = rgC ⟨a.s, j.p, a.e⟩ (.slice pj j.p.2.2.length cj) from rgC_congr ⟨fun i _ => (by show (if i < 0 then j.s i else a.s i) = a.s i; exact if_neg (Nat.not_lt_zero i)), rfl, fun _ _ => rfl⟩]
    exact (Mem.only (M := [_, _, _, _, _, _]) HM26.out [0, 0, 2, 2, 1, 0] rfl)
  rintro n vs W' ⟨k, rfl, e15, hk, hm⟩
  simp only [putAll, List.map_cons, List.map_nil, Act.put, List.setIfInBounds_toArray, List.set_cons_succ, List.set_cons_zero]
  rw [e15]
  clear e15
  have HM27 := Lib.hid hm
  clear hm
  refine wp_seq ?_
  refine wp_region_N [(0, 1)] (by kernel_rfl) ?_
  refine wpS_this [0] rfl (by kernel_rfl) (by simp only [pickL, nthL, List.cons_append, List.nil_append]; rfl) ?_
  repeat (go_big_quiet_step (fail))
  refine wpQuiet_nil ?_
  refine wpS_nil ?_
  refine then_normal ?_
  refine wp_seq ?_
  refine wp_cond_split rfl (fun h28 => ?_) (fun h28 => ?_)
  · have hk1 : k + 1 ≤ 8 := by have : (k : Int) < 8 := (by simpa using h28); omega
    clear h28
    refine wp_skip ?_
    refine then_normal ?_
    refine wp_seq ?_
    refine wp_block ?_
    refine wp_seq ?_
    refine wp_region_N [(0, 1), (1, 1)] (by kernel_rfl) ?_
    refine wpS_this [0, 1] rfl (by kernel_rfl) (by simp only [pickL, nthL, List.cons_append, List.nil_append]; rfl) ?_
    repeat (go_big_quiet_step (fail))
    refine wpQuiet_nil ?_
    refine wpS_nil ?_
    refine then_normal ?_
    refine wp_region_M (fun k => k ∈ ([] : List Nat)) [(0, 1), (1, 1), (2, 1), (3, 1), (4, 1), (5, 1), (6, 1), (7, 1), (8, 1), (9, 1), (10, 1), (11, 1), (12, 3)] (by kernel_rfl) (by kernel_rfl) HM27.out ?_
    intro W29 hm30
    have HM31 := Lib.hid hm30
    clear hm30
    refine wpS_this [0, 1, 2] rfl (by kernel_rfl) (by simp only [pickL, nthL, List.cons_append, List.nil_append]; rfl) ?_
    repeat (go_big_quiet_step (fail))
    refine wpQuiet_nil ?_
    refine wpS_read (i := 3) (d := some 21) rfl (by rfl) (run_addrSt (show k < 8 by omega) rfl rfl rfl) rfl ?_
    simp only [Act.put, List.setIfInBounds_toArray, List.set_cons_succ, List.set_cons_zero]
    refine wpS_load1 (i := 4) (d := some 22) (u := _) rfl (by rfl) rfl rfl (HM31.out.sub1 3 rfl (rgC_s (show k < 8 by omega))) Try.underlying3 rfl rfl ?_
    simp only [Act.put, List.setIfInBounds_toArray, List.set_cons_succ, List.set_cons_zero]
    refine wpS_this [5, 6] rfl (by kernel_rfl) (by simp only [pickL, nthL, List.cons_append, List.nil_append]; rfl) ?_
    repeat (go_big_quiet_step (fail))
    refine wpQuiet_nil ?_
    refine wpS_read (i := 7) (d := some 25) rfl (by rfl) (run_addrSt (show k < 8 by omega) rfl rfl rfl) rfl ?_
    simp only [Act.put, List.setIfInBounds_toArray, List.set_cons_succ, List.set_cons_zero]
    refine wpS_load1 (i := 8) (d := some 26) (u := _) rfl (by rfl) rfl rfl (HM31.out.sub1 2 rfl (rgC_s (show k < 8 by omega))) Try.underlying3 rfl rfl ?_
    simp only [Act.put, List.setIfInBounds_toArray, List.set_cons_succ, List.set_cons_zero]
    refine wpS_this [9] rfl (by kernel_rfl) (by simp only [pickL, nthL, List.cons_append, List.nil_append]; rfl) ?_
    repeat (go_big_quiet_step (fail))
    refine wpQuiet_nil ?_
    rw [hjs.out k]
    refine wpS_this [10] rfl (by kernel_rfl) (by simp only [pickL, nthL, List.cons_append, List.nil_append]; rfl) ?_
    repeat (go_big_quiet_step (fail))
    refine wpQuiet_nil ?_
    refine wpS_read (i := 11) (d := some 29) rfl (by rfl) (run_addrSt (show k < 8 by omega) rfl rfl rfl) rfl ?_
    simp only [Act.put, List.setIfInBounds_toArray, List.set_cons_succ, List.set_cons_zero]
    refine wpS_store1 (i := 12) (v := .int _ _) (L2 := [_, _, _, _, _]) (cs' := rgC (⟨upd (fun i => if i < k then j.s i else a.s i) k (j.s k), j.p, a.e⟩) (.slice pj j.p.2.2.length cj)) rfl (by rfl) rfl rfl rfl rfl (by kernel_rfl) rfl HM31.out 0 rfl rfl (Nat.ble_eq_true_of_le (by rw [rgC_len]; have := (show k < 8 by omega); omega)) (rgC_setS ((show k < 8 by omega)) _) covS_nil rfl ?_
    rintro W33 hm32 -
    have HM34 := Lib.hid hm32
    clear hm32
    refine wpS_nil ?_
    refine block_normal ?_
    refine then_normal ?_
    refine wp_region_N [(0, 1), (1, 1)] (by kernel_rfl) ?_
    refine wpS_this [0, 1] rfl (by kernel_rfl) (by simp only [pickL, nthL, List.cons_append, List.nil_append]; rfl) ?_
    repeat (go_big_quiet_step (fail))
    refine wpQuiet_nil ?_
    refine wpS_nil ?_
    refine then_normal ?_
    refine ⟨by kernel_rfl, ?_⟩
    refine ⟨8 - (k + 1), by omega, k + 1, rfl, rfl, hk1, ?_⟩
    rw [show rgC ⟨(fun i => if i < (k + 1) then j.s i else a.s i), j.p, a.e⟩ (.slice pj j.p.2.2.length cj) = rgC ⟨upd (fun i => if i < k then j.s i else a.s i) k (j.s k), j.p, a.e⟩ (.slice pj j.p.2.2.length cj) from rgC_congr ⟨fun i _ => updK_next _ _ k i, rfl, fun _ _ => rfl⟩]
    exact (Mem.only (M := [_, _, _, _, _, _]) HM34.out [0, 0, 0, 0, 0, 0] rfl)
  · have hk8 : Hid (8 ≤ k) := Lib.hid (by have : ¬ (k : Int) < 8 := (by simpa using h28); omega)
    clear h28
    refine wp_exit ?_
    refine then_exit (then_exit (block_exit ?_))
    refine then_normal ?_
    refine wp_seq ?_
    refine wp_seq ?_
    refine wp_region_N [(0, 1)] (by kernel_rfl) ?_
    refine wpS_this [0] rfl (by kernel_rfl) (by simp only [pickL, nthL, List.cons_append, List.nil_append]; rfl) ?_
    repeat (go_big_quiet_step (fail))
    refine wpQuiet_nil ?_
    refine wpS_nil ?_
    refine then_normal ?_
    refine wp_block ?_
    refine wp_loop_F [7, 31, 32, 33, 34, 35, 36, 37, 38, 39, 40, 41, 42, 43, 44, 45, 46] (fun n ws W' => ∃ k : Nat, n = 16 - k ∧ ws 31 = .int .i64 (k : Int) ∧ k ≤ 16 ∧ Mem [boxT b15 (.cells (rgC ⟨j.s, j.p, (fun i => if i < k then j.e i else a.e i)⟩ (.slice pj j.p.2.2.length cj)).toArray 37 (0, 0)), rowT elemI (.slice pj j.p.2.2.length cj) j.p.2.2, boxT b7 (.cells (rgC b (.slice pb b.p.2.2.length cb)).toArray 37 (0, 0)), boxT b3 (.cells (rgC a (.slice pa a.p.2.2.length ca)).toArray 37 (0, 0)), boxT b11 (.cells (rgC noR (.slice none 0 0)).toArray 37 (0, 0)), R] H w W') (n0 := 16) ?_ ?_
    · refine ⟨0, rfl, rfl, Nat.zero_le _, ?_⟩
      rw [show rgC ⟨j.s, j.p, (fun i => if i < 0 then j.e i else a.e i)⟩ (.slice pj j.p.2.2.length cj) = rgC ⟨(fun i => if i < k then j.s i else a.s i), j.p, a.e⟩ (.slice pj j.p.2.2.length cj) from rgC_congr ⟨fun i hi => (by show j.s i = (if i < k then j.s i else a.s i); exact (if_pos (Nat.lt_of_lt_of_le hi hk8.out)).symm), rfl, fun i _ => (by show (if i < 0 then j.e i else a.e i) = a.e i; exact if_neg (Nat.not_lt_zero i))⟩]
      exact (Mem.only (M := [_, _, _, _, _, _]) HM27.out [0, 0, 0, 0, 0, 0] rfl)
    rintro n ws W' ⟨k, rfl, e31, hk, hmm⟩
    simp only [putAll, List.map_cons, List.map_nil, Act.put, List.setIfInBounds_toArray, List.set_cons_succ, List.set_cons_zero]
    rw [e31]
    clear e31
    have HM35 := Lib.hid hmm
    clear hmm
    refine wp_seq ?_
    refine wp_region_N [(0, 1)] (by kernel_rfl) ?_
    refine wpS_this [0] rfl (by kernel_rfl) (by simp only [pickL, nthL, List.cons_append, List.nil_append]; rfl) ?_
    repeat (go_big_quiet_step (fail))
    refine wpQuiet_nil ?_
    refine wpS_nil ?_
    refine then_normal ?_
    refine wp_seq ?_
    refine wp_cond_split rfl (fun h36 => ?_) (fun h36 => ?_)
    · have hk1 : k + 1 ≤ 16 := by have : (k : Int) < 16 := (by simpa using h36); omega
      clear h36
      refine wp_skip ?_
      refine then_normal ?_
      refine wp_seq ?_
      refine wp_block ?_
      refine wp_seq ?_
      refine wp_region_N [(0, 1), (1, 1)] (by kernel_rfl) ?_
      refine wpS_this [0, 1] rfl (by kernel_rfl) (by simp only [pickL, nthL, List.cons_append, List.nil_append]; rfl) ?_
      repeat (go_big_quiet_step (fail))
      refine wpQuiet_nil ?_
      refine wpS_nil ?_
      refine then_normal ?_
      refine wp_region_M (fun k => k ∈ ([b15, b3, b7] : List Nat)) [(0, 0), (1, 1), (2, 1), (3, 1), (4, 1), (5, 1), (6, 1), (7, 1), (8, 1), (10, 0), (9, 3), (11, 1), (12, 4)] (by kernel_rfl) (by kernel_rfl) HM35.out ?_
      intro W37 hm38
      have HM39 := Lib.hid hm38
      clear hm38
      refine wpS_all [0] rfl (by kernel_rfl) (by simp only [pickL, nthL, List.cons_append, List.nil_append]; rfl) ?_
      repeat (go_big_quiet_step (fail))
      refine wpQuiet_nil ?_
      refine wpS_this [1, 2] rfl (by kernel_rfl) (by simp only [pickL, nthL, List.cons_append, List.nil_append]; rfl) ?_
      repeat (go_big_quiet_step (fail))
      refine wpQuiet_nil ?_
      refine wpS_read (i := 3) (d := some 37) rfl (by rfl) (run_addrEnt (show k < 16 by omega) rfl rfl rfl) rfl ?_
      simp only [Act.put, List.setIfInBounds_toArray, List.set_cons_succ, List.set_cons_zero]
      refine wpS_loadA (i := 4) (d := some 38) (cells := eC _) rfl (by rfl) rfl rfl (HM39.out.sub 3 rfl (rgC_e (show k < 16 by omega))) Try.underlying34 rfl (by kernel_rfl) rfl ?_
      dsimp only [eC]
      simp only [Act.put, List.setIfInBounds_toArray, List.set_cons_succ, List.set_cons_zero]
      refine wpS_this [5, 6] rfl (by kernel_rfl) (by simp only [pickL, nthL, List.cons_append, List.nil_append]; rfl) ?_
      repeat (go_big_quiet_step (fail))
      refine wpQuiet_nil ?_
      refine wpS_read (i := 7) (d := some 41) rfl (by rfl) (run_addrEnt (show k < 16 by omega) rfl rfl rfl) rfl ?_
      simp only [Act.put, List.setIfInBounds_toArray, List.set_cons_succ, List.set_cons_zero]
      refine wpS_loadA (i := 8) (d := some 42) (cells := eC _) rfl (by rfl) rfl rfl (HM39.out.sub 2 rfl (rgC_e (show k < 16 by omega))) Try.underlying34 rfl (by kernel_rfl) rfl ?_
      dsimp only [eC]
      simp only [Act.put, List.setIfInBounds_toArray, List.set_cons_succ, List.set_cons_zero]
      refine wpS_all [10] rfl (by kernel_rfl) (by simp only [pickL, nthL, List.cons_append, List.nil_append]; rfl) ?_
      repeat (go_big_quiet_step (fail))
      refine wpQuiet_nil ?_
      refine wpS_does2 (i := 9) (d := some 43) (rem := [_, _, _, _, _, _]) (out := [_, _, _, _, _, _]) rfl (by rfl) rfl Try.call59 (rentjoin_d (a.e k).1 (a.e k).2 (b.e k).1 (b.e k).2 (j.e k).1 (j.e k).2 (hje.out k)) rfl rfl HM39.out [] rfl (covS_box 0 rfl (covS_box 3 rfl (covS_box 2 rfl covS_nil))) rfl rfl ?_
      rintro W41 hm40 hg42
      have HM43 := Lib.hid hm40
      clear hm40
      simp only [Act.put, List.setIfInBounds_toArray, List.set_cons_succ, List.set_cons_zero]
      refine wpS_read (i := 11) (d := some 45) rfl (by rfl) (run_addrEnt (show k < 16 by omega) rfl rfl rfl) rfl ?_
      simp only [Act.put, List.setIfInBounds_toArray, List.set_cons_succ, List.set_cons_zero]
      refine wpS_storeA4 (i := 12) (L2 := [_, _, _, _, _]) (cs' := rgC (⟨j.s, j.p, upd (fun i => if i < k then j.e i else a.e i) k (j.e k)⟩) (.slice pj j.p.2.2.length cj)) rfl (by rfl) rfl rfl rfl (by kernel_rfl) (by rfl) HM43.out 0 rfl rfl (Nat.ble_eq_true_of_le (by rw [rgC_len]; show _ + 2 ≤ _; have := (show k < 16 by omega); omega)) (rgC_setE ((show k < 16 by omega)) (j.e k))  rfl ?_
      rintro W45 hm44
      have HM47 := Lib.hid hm44
      clear hm44
      refine wpS_nil ?_
      refine block_normal ?_
      refine then_normal ?_
      refine wp_region_N [(0, 1), (1, 1)] (by kernel_rfl) ?_
      refine wpS_this [0, 1] rfl (by kernel_rfl) (by simp only [pickL, nthL, List.cons_append, List.nil_append]; rfl) ?_
      repeat (go_big_quiet_step (fail))
      refine wpQuiet_nil ?_
      refine wpS_nil ?_
      refine then_normal ?_
      refine ⟨by kernel_rfl, ?_⟩
      refine ⟨16 - (k + 1), by omega, k + 1, rfl, rfl, hk1, ?_⟩
      rw [show rgC ⟨j.s, j.p, (fun i => if i < (k + 1) then j.e i else a.e i)⟩ (.slice pj j.p.2.2.length cj) = rgC ⟨j.s, j.p, upd (fun i => if i < k then j.e i else a.e i) k (j.e k)⟩ (.slice pj j.p.2.2.length cj) from rgC_congr ⟨fun _ _ => rfl, rfl, fun i _ => updK_next _ _ k i⟩]
      exact (Mem.only (M := [_, _, _, _, _, _]) HM47.out [0, 0, 0, 0, 0, 0] rfl)
    · have hk16 : Hid (16 ≤ k) := Lib.hid (by have : ¬ (k : Int) < 16 := (by simpa using h36); omega)
      clear h36
      refine wp_exit ?_
      refine then_exit (then_exit (block_exit ?_))
      refine then_normal ?_
      refine wp_seq ?_
      rw [show rgC ⟨j.s, j.p, (fun i => if i < k then j.e i else a.e i)⟩ (.slice pj j.p.2.2.length cj) = rgC j (.slice pj j.p.2.2.length cj) from rgC_congr ⟨fun _ _ => rfl, rfl, fun i hi => (by show (if i < k then j.e i else a.e i) = j.e i; exact if_pos (Nat.lt_of_lt_of_le hi hk16.out))⟩] at HM35
      refine wp_region_N [(0, 1), (1, 3)] (by kernel_rfl) ?_
      refine wpS_loadA (i := 0) (d := some 47) (cells := rgC (j) (.slice pj j.p.2.2.length cj)) rfl (by rfl) rfl rfl (HM35.out.sub 0 rfl (fun k u h => by rw [Nat.zero_add]; exact h)) Try.underlying37 rfl (by kernel_rfl) rfl ?_
      simp only [Act.put, List.setIfInBounds_toArray, List.set_cons_succ, List.set_cons_zero]
      refine wpS_storeA (i := 1) (L2 := [_, _, _, _, _]) (cs' := rgC (j) (.slice pj j.p.2.2.length cj)) rfl (by rfl) rfl rfl rfl (by kernel_rfl) (rgC_one _ _ _) HM35.out 4 rfl rfl (by kernel_rfl) (by kernel_rfl) covS_nil rfl ?_
      rintro W49 hm48 -
      have HM50 := Lib.hid hm48
      clear hm48
      refine wpS_nil ?_
      refine then_normal ?_
      refine wp_ret ?_
      refine ret_cell rfl HM50.out 0 rfl rfl Try.underlying37 rfl (by kernel_rfl) rfl ?_
      exact doesU_ret (post := fun u => [ringT u j, R]) (Mem.toRing (Mem.only (M := [_, _]) HM50.out [2, 4] rfl)) rfl

set_option maxHeartbeats 4000000 in
set_option maxRecDepth 100000 in
theorem rbelowR_d (R : At) (va : Value) (a : Rg) (ha : Reads elemI R va a.p.2.2) (la : a.p.2.2.length ≤ 1000) (vb : Value) (b : Rg) (hb : Reads elemI R vb b.p.2.2) (lb : b.p.2.2.length ≤ 1000) : Does Try.prog 30 #[rgV a va, rgV b vb] [R] (.bool (belowR a b)) [R] := by
  intro w H hp
  have HM0 := Lib.hid (mem_refl hp)
  clear hp
  obtain ⟨pa, ca, rfl⟩ := row_form (Mem.src HM0.out 0 rfl ha)
  obtain ⟨pb, cb, rfl⟩ := row_form (Mem.src HM0.out 0 rfl hb)
  go_enter Try.func30, Try.ntmps30
  refine wp_seq ?_
  obtain ⟨j, hj'⟩ : ∃ z, joinR a b = z := ⟨_, rfl⟩
  have lj : Hid (j.p.2.2.length ≤ 1000) := Lib.hid (by rw [← hj']; exact joinR_len la lb)
  have hj := Lib.hid hj'
  clear hj'
  refine wp_region_N [(0, 3), (1, 3), (2, 1)] (by kernel_rfl) ?_
  refine wpS_boxA (i := 0) (dd := 2) rfl (by rfl) rfl rfl HM0.out covS_nil rfl ?_
  rintro b3 W2 hm1 -
  have HM4 := Lib.hid hm1
  clear hm1
  simp only [Act.put, List.setIfInBounds_toArray, List.set_cons_succ, List.set_cons_zero]
  refine wpS_boxA (i := 1) (dd := 3) rfl (by rfl) rfl rfl HM4.out covS_nil rfl ?_
  rintro b7 W6 hm5 -
  have HM8 := Lib.hid hm5
  clear hm5
  simp only [Act.put, List.setIfInBounds_toArray, List.set_cons_succ, List.set_cons_zero]
  refine wpS_this [2] rfl (by kernel_rfl) (by simp only [pickL, nthL, List.cons_append, List.nil_append]; rfl) ?_
  repeat (go_big_quiet_step (fail))
  refine wpQuiet_nil ?_
  refine wpS_nil ?_
  refine then_normal ?_
  refine wp_seq ?_
  refine wp_region_M (fun k => k ∈ ([b3, b7] : List Nat)) [(0, 1), (1, 1), (3, 2), (2, 3), (4, 3), (5, 1)] (by kernel_rfl) (by kernel_rfl) HM8.out ?_
  intro W9 hm10
  have HM11 := Lib.hid hm10
  clear hm10
  refine wpS_loadA (i := 0) (d := some 5) (cells := rgC (a) (.slice pa a.p.2.2.length ca)) rfl (by rfl) rfl rfl (HM11.out.sub 1 rfl (fun k u h => by rw [Nat.zero_add]; exact h)) Try.underlying37 rfl (by kernel_rfl) rfl ?_
  simp only [Act.put, List.setIfInBounds_toArray, List.set_cons_succ, List.set_cons_zero]
  refine wpS_loadA (i := 1) (d := some 6) (cells := rgC (b) (.slice pb b.p.2.2.length cb)) rfl (by rfl) rfl rfl (HM11.out.sub 0 rfl (fun k u h => by rw [Nat.zero_add]; exact h)) Try.underlying37 rfl (by kernel_rfl) rfl ?_
  simp only [Act.put, List.setIfInBounds_toArray, List.set_cons_succ, List.set_cons_zero]
  refine wpS_loadA2 (i := 3) (d := some 8) (cells := rgC (b) (.slice pb b.p.2.2.length cb)) rfl (by rfl) rfl rfl (by simp) (HM11.out.sub 0 rfl (fun k u h => by rw [Nat.zero_add]; exact h)) Try.underlying37 rfl (by kernel_rfl) rfl ?_
  simp only [Act.put, List.setIfInBounds_toArray, List.set_cons_succ, List.set_cons_zero]
  refine wpS_doesU2 (i := 2) (d := some 7) (rem := [_, _]) rfl (by rfl) rfl Try.call32 (rjoinR_d R _ a ha la _ b hb lb j hj.out) rfl rfl HM11.out [2] rfl (covS_box 1 rfl (covS_box 0 rfl covS_nil)) (fun _ => rfl) rfl ?_
  rintro u15 W13 hm12 hg14
  obtain ⟨pj, cj, rfl, hm12q⟩ := Mem.ring rfl hm12
  clear hm12
  have HM16 := Lib.hid hm12q
  clear hm12q
  simp only [Act.put, List.setIfInBounds_toArray, List.set_cons_succ, List.set_cons_zero]
  refine wpS_does2 (i := 4) (d := some 9) (rem := [_, _]) (out := [_, _, _, _]) rfl (by rfl) rfl Try.call55 (Does.ofList (rsame_d (listT [_, _]) _ j (srcL 0 rfl rowT_reads) lj.out _ b (srcL 1 rfl hb) lb)) rfl rfl HM16.out [0, 0] rfl (covS_box 1 rfl (covS_box 0 rfl covS_nil)) rfl rfl ?_
  rintro W18 hm17 hg19
  have HM20 := Lib.hid hm17
  clear hm17
  simp only [Act.put, List.setIfInBounds_toArray, List.set_cons_succ, List.set_cons_zero]
  refine wpS_this [5] rfl (by kernel_rfl) (by simp only [pickL, nthL, List.cons_append, List.nil_append]; rfl) ?_
  repeat (go_big_quiet_step (fail))
  refine wpQuiet_nil ?_
  refine wpS_nil ?_
  refine then_normal ?_
  refine wp_ret ?_
  refine bodyPost_ret (results_tmp rfl _ _ _) rfl ?_
  rw [show belowR a b = sameR j b from by unfold belowR; rw [hj.out]]
  exact does_ret (Mem.only (M := [_]) HM20.out [1] rfl) rfl rfl

end Go.Proofs.Ytnkchmafofpimaa
