/- PlaC10: PlaC. -/
import Derived.Test.YtdfmfcbeebfdhaaRgC
namespace Go.Proofs.Ytdfmfcbeebfdhaa
section
open Go Go.RowKit Go.BigFrame
set_option maxHeartbeats 4000000 in
set_option maxRecDepth 100000 in
theorem next_d (R : At) (va : Value) (a1 a2 : Int) (sa : List Int) (ha : Reads elemI R va sa) (la : sa.length ≤ 1000) (n : Int) (vt : Value) (st : List Int) (ht : Reads elemI R vt st) (lt : st.length ≤ 1000) (f1 f2 : Int) (sf : List Int) (fe : Int) (hf : nextP (a1, a2, sa) n st = ((f1, f2, sf), fe)) : DoesU Try.prog 59 #[.agg #[.int .i64 a1, .int .i64 a2, va], .int .i64 n, vt] [R] (fun u => [nextT u (f1, f2, sf) fe, R]) := by
  intro w H hp
  have HM0 := Lib.hid (mem_refl hp)
  clear hp
  obtain ⟨pa, ca, rfl⟩ := row_form (Mem.src HM0.out 0 rfl ha)
  obtain ⟨pt, ct, rfl⟩ := row_form (Mem.src HM0.out 0 rfl ht)
  go_enter Try.func59, Try.ntmps59
  refine wp_seq ?_
  refine wp_region_N [(0, 3), (1, 3), (2, 1)] (by kernel_rfl) ?_
  refine wpS_boxA (i := 0) (dd := 3) rfl (by rfl) rfl rfl HM0.out covS_nil rfl ?_
  rintro b3 W2 hm1 -
  have HM4 := Lib.hid hm1
  clear hm1
  simp only [Act.put, List.setIfInBounds_toArray, List.set_cons_succ, List.set_cons_zero]
  refine wpS_alloc (i := 1) (dd := 6) (z := .agg #[.int .i64 0, .int .i64 0, .slice none 0 0]) (cs := #[.int .i64 0, .int .i64 0, .slice none 0 0]) rfl (by rfl) rfl (by kernel_rfl) rfl HM4.out covS_nil rfl ?_
  rintro b7 W6 hm5 -
  have HM8 := Lib.hid hm5
  clear hm5
  simp only [Act.put, List.setIfInBounds_toArray, List.set_cons_succ, List.set_cons_zero]
  refine wpS_this [2] rfl (by kernel_rfl) (by simp only [pickL, nthL, List.cons_append, List.nil_append]; rfl) ?_
  repeat (go_big_quiet_step (fail))
  refine wpQuiet_nil ?_
  refine wpS_nil ?_
  refine then_normal ?_
  refine wp_seq ?_
  refine wp_seq ?_
  rcases nextP_cases (a1, a2, sa) n st with ⟨hm, hq⟩ | ⟨hm, hn, hq⟩ | ⟨hm, hn, hg, hq⟩ | ⟨hm, hn, hg, hx, hq⟩ | ⟨hm, hn, hg, hx, hq⟩
  · have hq := hf.symm.trans hq
    simp only [Prod.mk.injEq] at hq
    obtain ⟨⟨r1, r2, r3⟩, r4⟩ := hq
    subst f1
    subst f2
    subst sf
    subst fe
    replace hm := Lib.hid hm
    clear hf
    refine wp_region_N [(0, 1), (1, 3), (2, 1), (3, 1), (4, 1), (5, 3), (6, 1), (7, 1), (8, 1), (9, 1), (10, 3), (11, 1), (12, 1)] (by kernel_rfl) ?_
    have Cb3 := Mem.cell HM8.out 1 rfl
    refine wpS_this [0] rfl (by kernel_rfl) (by simp only [pickL, nthL, List.cons_append, List.nil_append]; rfl) ?_
    repeat (go_big_quiet_step (fail))
    refine wpQuiet_nil ?_
    clear Cb3
    refine wpS_does1 (i := 1) (d := some 9) (rem := [_, _]) (out := [_, _, _]) rfl (by rfl) rfl Try.call31 (may_d R _ a1 a2 sa ha la) rfl HM8.out [2] rfl covS_nil rfl rfl ?_
    rintro W10 hm9 -
    rw [hm.out]
    have HM11 := Lib.hid hm9
    clear hm9
    simp only [Act.put, List.setIfInBounds_toArray, List.set_cons_succ, List.set_cons_zero]
    refine wpS_this [2, 3, 4] rfl (by kernel_rfl) (by simp only [pickL, nthL, List.cons_append, List.nil_append]; rfl) ?_
    repeat (go_big_quiet_step (fail))
    refine wpQuiet_nil ?_
    refine wpS_skip (i := 5) (d := some 13) rfl (by rfl) rfl ?_
    simp only [Act.put, List.setIfInBounds_toArray, List.set_cons_succ, List.set_cons_zero]
    refine wpS_this [6, 7, 8, 9] rfl (by kernel_rfl) (by simp only [pickL, nthL, List.cons_append, List.nil_append]; rfl) ?_
    repeat (go_big_quiet_step (fail))
    refine wpQuiet_nil ?_
    refine wpS_skip (i := 10) (d := some 18) rfl (by rfl) rfl ?_
    simp only [Act.put, List.setIfInBounds_toArray, List.set_cons_succ, List.set_cons_zero]
    refine wpS_this [11, 12] rfl (by kernel_rfl) (by simp only [pickL, nthL, List.cons_append, List.nil_append]; rfl) ?_
    repeat (go_big_quiet_step (fail))
    refine wpQuiet_nil ?_
    refine wpS_nil ?_
    refine then_normal ?_
    refine wp_cond_true rfl ?_
    refine wp_seq ?_
    refine wp_region_N [(0, 1), (1, 3), (2, 1)] (by kernel_rfl) ?_
    refine wpS_this [0] rfl (by kernel_rfl) (by simp only [pickL, nthL, List.cons_append, List.nil_append]; rfl) ?_
    repeat (go_big_quiet_step (fail))
    refine wpQuiet_nil ?_
    refine wpS_storeA (i := 1) (L2 := [_, _]) (cs' := [_, _, _]) rfl (by rfl) rfl rfl rfl (by kernel_rfl) (by rfl) HM11.out 1 rfl rfl rfl rfl covS_nil rfl ?_
    rintro W13 hm12 -
    have HM14 := Lib.hid hm12
    clear hm12
    refine wpS_this [2] rfl (by kernel_rfl) (by simp only [pickL, nthL, List.cons_append, List.nil_append]; rfl) ?_
    repeat (go_big_quiet_step (fail))
    refine wpQuiet_nil ?_
    refine wpS_nil ?_
    refine then_normal ?_
    refine wp_ret ?_
    refine then_ret ?_
    refine ret_cell_tmp rfl HM14.out 0 rfl rfl Try.underlying25 rfl (by kernel_rfl) rfl rfl ?_
    exact doesU_ret (post := fun u => [nextT u (0, 0, []) 1, R]) (Mem.toNext (p := none) (c := 0) (t := []) (Mem.nilRow elemI (Mem.only (M := [_]) HM14.out [1] rfl))) rfl
  · have hq := hf.symm.trans hq
    simp only [Prod.mk.injEq] at hq
    obtain ⟨⟨r1, r2, r3⟩, r4⟩ := hq
    subst f1
    subst f2
    subst sf
    subst fe
    replace hm := Lib.hid hm
    replace hn := Lib.hid hn
    clear hf
    refine wp_region_N [(0, 1), (1, 3), (2, 1), (3, 1), (4, 1), (5, 3), (6, 1), (7, 1), (8, 1), (9, 1), (10, 3), (11, 1), (12, 1)] (by kernel_rfl) ?_
    have Cb3 := Mem.cell HM8.out 1 rfl
    refine wpS_this [0] rfl (by kernel_rfl) (by simp only [pickL, nthL, List.cons_append, List.nil_append]; rfl) ?_
    repeat (go_big_quiet_step (fail))
    refine wpQuiet_nil ?_
    clear Cb3
    refine wpS_does1 (i := 1) (d := some 9) (rem := [_, _]) (out := [_, _, _]) rfl (by rfl) rfl Try.call31 (may_d R _ a1 a2 sa ha la) rfl HM8.out [2] rfl covS_nil rfl rfl ?_
    rintro W16 hm15 -
    rw [hm.out]
    have HM17 := Lib.hid hm15
    clear hm15
    simp only [Act.put, List.setIfInBounds_toArray, List.set_cons_succ, List.set_cons_zero]
    refine wpS_this [2, 3, 4] rfl (by kernel_rfl) (by simp only [pickL, nthL, List.cons_append, List.nil_append]; rfl) ?_
    repeat (go_big_quiet_step (fail))
    refine wpQuiet_nil ?_
    refine wpS_does1 (i := 5) (d := some 13) (rem := [_, _, _]) (out := [_, _, _]) rfl (by rfl) rfl Try.call62 (inode_d n) rfl HM17.out [] rfl covS_nil rfl rfl ?_
    rintro W19 hm18 -
    rw [hn.out]
    have HM20 := Lib.hid hm18
    clear hm18
    simp only [Act.put, List.setIfInBounds_toArray, List.set_cons_succ, List.set_cons_zero]
    refine wpS_this [6, 7, 8, 9] rfl (by kernel_rfl) (by simp only [pickL, nthL, List.cons_append, List.nil_append]; rfl) ?_
    repeat (go_big_quiet_step (fail))
    refine wpQuiet_nil ?_
    refine wpS_skip (i := 10) (d := some 18) rfl (by rfl) rfl ?_
    simp only [Act.put, List.setIfInBounds_toArray, List.set_cons_succ, List.set_cons_zero]
    refine wpS_this [11, 12] rfl (by kernel_rfl) (by simp only [pickL, nthL, List.cons_append, List.nil_append]; rfl) ?_
    repeat (go_big_quiet_step (fail))
    refine wpQuiet_nil ?_
    refine wpS_nil ?_
    refine then_normal ?_
    refine wp_cond_true rfl ?_
    refine wp_seq ?_
    refine wp_region_N [(0, 1), (1, 3), (2, 1)] (by kernel_rfl) ?_
    refine wpS_this [0] rfl (by kernel_rfl) (by simp only [pickL, nthL, List.cons_append, List.nil_append]; rfl) ?_
    repeat (go_big_quiet_step (fail))
    refine wpQuiet_nil ?_
    refine wpS_storeA (i := 1) (L2 := [_, _]) (cs' := [_, _, _]) rfl (by rfl) rfl rfl rfl (by kernel_rfl) (by rfl) HM20.out 1 rfl rfl rfl rfl covS_nil rfl ?_
    rintro W22 hm21 -
    have HM23 := Lib.hid hm21
    clear hm21
    refine wpS_this [2] rfl (by kernel_rfl) (by simp only [pickL, nthL, List.cons_append, List.nil_append]; rfl) ?_
    repeat (go_big_quiet_step (fail))
    refine wpQuiet_nil ?_
    refine wpS_nil ?_
    refine then_normal ?_
    refine wp_ret ?_
    refine then_ret ?_
    refine ret_cell_tmp rfl HM23.out 0 rfl rfl Try.underlying25 rfl (by kernel_rfl) rfl rfl ?_
    exact doesU_ret (post := fun u => [nextT u (0, 0, []) 1, R]) (Mem.toNext (p := none) (c := 0) (t := []) (Mem.nilRow elemI (Mem.only (M := [_]) HM23.out [1] rfl))) rfl
  · have hq := hf.symm.trans hq
    simp only [Prod.mk.injEq] at hq
    obtain ⟨⟨r1, r2, r3⟩, r4⟩ := hq
    subst f1
    subst f2
    subst sf
    subst fe
    replace hm := Lib.hid hm
    replace hn := Lib.hid hn
    replace hg := Lib.hid hg
    clear hf
    refine wp_region_N [(0, 1), (1, 3), (2, 1), (3, 1), (4, 1), (5, 3), (6, 1), (7, 1), (8, 1), (9, 1), (10, 3), (11, 1), (12, 1)] (by kernel_rfl) ?_
    have Cb3 := Mem.cell HM8.out 1 rfl
    refine wpS_this [0] rfl (by kernel_rfl) (by simp only [pickL, nthL, List.cons_append, List.nil_append]; rfl) ?_
    repeat (go_big_quiet_step (fail))
    refine wpQuiet_nil ?_
    clear Cb3
    refine wpS_does1 (i := 1) (d := some 9) (rem := [_, _]) (out := [_, _, _]) rfl (by rfl) rfl Try.call31 (may_d R _ a1 a2 sa ha la) rfl HM8.out [2] rfl covS_nil rfl rfl ?_
    rintro W25 hm24 -
    rw [hm.out]
    have HM26 := Lib.hid hm24
    clear hm24
    simp only [Act.put, List.setIfInBounds_toArray, List.set_cons_succ, List.set_cons_zero]
    refine wpS_this [2, 3, 4] rfl (by kernel_rfl) (by simp only [pickL, nthL, List.cons_append, List.nil_append]; rfl) ?_
    repeat (go_big_quiet_step (fail))
    refine wpQuiet_nil ?_
    refine wpS_does1 (i := 5) (d := some 13) (rem := [_, _, _]) (out := [_, _, _]) rfl (by rfl) rfl Try.call62 (inode_d n) rfl HM26.out [] rfl covS_nil rfl rfl ?_
    rintro W28 hm27 -
    rw [hn.out]
    have HM29 := Lib.hid hm27
    clear hm27
    simp only [Act.put, List.setIfInBounds_toArray, List.set_cons_succ, List.set_cons_zero]
    refine wpS_this [6, 7, 8, 9] rfl (by kernel_rfl) (by simp only [pickL, nthL, List.cons_append, List.nil_append]; rfl) ?_
    repeat (go_big_quiet_step (fail))
    refine wpQuiet_nil ?_
    refine wpS_does1 (i := 10) (d := some 18) (rem := [_, _]) (out := [_, _, _]) rfl (by rfl) rfl Try.call63 (tgt_d R _ st ht lt) rfl HM29.out [0] rfl covS_nil rfl rfl ?_
    rintro W31 hm30 -
    rw [hg.out]
    have HM32 := Lib.hid hm30
    clear hm30
    simp only [Act.put, List.setIfInBounds_toArray, List.set_cons_succ, List.set_cons_zero]
    refine wpS_this [11, 12] rfl (by kernel_rfl) (by simp only [pickL, nthL, List.cons_append, List.nil_append]; rfl) ?_
    repeat (go_big_quiet_step (fail))
    refine wpQuiet_nil ?_
    refine wpS_nil ?_
    refine then_normal ?_
    refine wp_cond_true rfl ?_
    refine wp_seq ?_
    refine wp_region_N [(0, 1), (1, 3), (2, 1)] (by kernel_rfl) ?_
    refine wpS_this [0] rfl (by kernel_rfl) (by simp only [pickL, nthL, List.cons_append, List.nil_append]; rfl) ?_
    repeat (go_big_quiet_step (fail))
    refine wpQuiet_nil ?_
    refine wpS_storeA (i := 1) (L2 := [_, _]) (cs' := [_, _, _]) rfl (by rfl) rfl rfl rfl (by kernel_rfl) (by rfl) HM32.out 1 rfl rfl rfl rfl covS_nil rfl ?_
    rintro W34 hm33 -
    have HM35 := Lib.hid hm33
    clear hm33
    refine wpS_this [2] rfl (by kernel_rfl) (by simp only [pickL, nthL, List.cons_append, List.nil_append]; rfl) ?_
    repeat (go_big_quiet_step (fail))
    refine wpQuiet_nil ?_
    refine wpS_nil ?_
    refine then_normal ?_
    refine wp_ret ?_
    refine then_ret ?_
    refine ret_cell_tmp rfl HM35.out 0 rfl rfl Try.underlying25 rfl (by kernel_rfl) rfl rfl ?_
    exact doesU_ret (post := fun u => [nextT u (0, 0, []) 1, R]) (Mem.toNext (p := none) (c := 0) (t := []) (Mem.nilRow elemI (Mem.only (M := [_]) HM35.out [1] rfl))) rfl
  · have hq := hf.symm.trans hq
    simp only [Prod.mk.injEq] at hq
    obtain ⟨⟨r1, r2, r3⟩, r4⟩ := hq
    subst f1
    subst f2
    subst sf
    subst fe
    replace hm := Lib.hid hm
    replace hn := Lib.hid hn
    replace hg := Lib.hid hg
    have gx : (a1 == 1000000) = true := beq_iff_eq.2 hx
    clear hx
    clear hf
    refine wp_region_N [(0, 1), (1, 3), (2, 1), (3, 1), (4, 1), (5, 3), (6, 1), (7, 1), (8, 1), (9, 1), (10, 3), (11, 1), (12, 1)] (by kernel_rfl) ?_
    have Cb3 := Mem.cell HM8.out 1 rfl
    refine wpS_this [0] rfl (by kernel_rfl) (by simp only [pickL, nthL, List.cons_append, List.nil_append]; rfl) ?_
    repeat (go_big_quiet_step (fail))
    refine wpQuiet_nil ?_
    clear Cb3
    refine wpS_does1 (i := 1) (d := some 9) (rem := [_, _]) (out := [_, _, _]) rfl (by rfl) rfl Try.call31 (may_d R _ a1 a2 sa ha la) rfl HM8.out [2] rfl covS_nil rfl rfl ?_
    rintro W37 hm36 -
    rw [hm.out]
    have HM38 := Lib.hid hm36
    clear hm36
    simp only [Act.put, List.setIfInBounds_toArray, List.set_cons_succ, List.set_cons_zero]
    refine wpS_this [2, 3, 4] rfl (by kernel_rfl) (by simp only [pickL, nthL, List.cons_append, List.nil_append]; rfl) ?_
    repeat (go_big_quiet_step (fail))
    refine wpQuiet_nil ?_
    refine wpS_does1 (i := 5) (d := some 13) (rem := [_, _, _]) (out := [_, _, _]) rfl (by rfl) rfl Try.call62 (inode_d n) rfl HM38.out [] rfl covS_nil rfl rfl ?_
    rintro W40 hm39 -
    rw [hn.out]
    have HM41 := Lib.hid hm39
    clear hm39
    simp only [Act.put, List.setIfInBounds_toArray, List.set_cons_succ, List.set_cons_zero]
    refine wpS_this [6, 7, 8, 9] rfl (by kernel_rfl) (by simp only [pickL, nthL, List.cons_append, List.nil_append]; rfl) ?_
    repeat (go_big_quiet_step (fail))
    refine wpQuiet_nil ?_
    refine wpS_does1 (i := 10) (d := some 18) (rem := [_, _]) (out := [_, _, _]) rfl (by rfl) rfl Try.call63 (tgt_d R _ st ht lt) rfl HM41.out [0] rfl covS_nil rfl rfl ?_
    rintro W43 hm42 -
    rw [hg.out]
    have HM44 := Lib.hid hm42
    clear hm42
    simp only [Act.put, List.setIfInBounds_toArray, List.set_cons_succ, List.set_cons_zero]
    refine wpS_this [11, 12] rfl (by kernel_rfl) (by simp only [pickL, nthL, List.cons_append, List.nil_append]; rfl) ?_
    repeat (go_big_quiet_step (fail))
    refine wpQuiet_nil ?_
    refine wpS_nil ?_
    refine then_normal ?_
    refine wp_cond_false rfl ?_
    refine wp_skip ?_
    refine then_normal ?_
    refine wp_seq ?_
    refine wp_seq ?_
    refine wp_region_N [(0, 1), (1, 1), (2, 1)] (by kernel_rfl) ?_
    have Cb3 := Mem.cell HM44.out 2 rfl
    refine wpS_this [0, 1, 2] rfl (by kernel_rfl) (by simp only [pickL, nthL, List.cons_append, List.nil_append]; rfl) ?_
    repeat (go_big_quiet_step (fail))
    refine wpQuiet_nil ?_
    clear Cb3
    refine wpS_nil ?_
    refine then_normal ?_
    refine wp_cond_true rfl ?_
    refine wp_seq ?_
    refine wp_region_N [(0, 1), (1, 3), (2, 1)] (by kernel_rfl) ?_
    refine wpS_this [0] rfl (by kernel_rfl) (by simp only [pickL, nthL, List.cons_append, List.nil_append]; rfl) ?_
    repeat (go_big_quiet_step (fail))
    refine wpQuiet_nil ?_
    refine wpS_storeA (i := 1) (L2 := [_, _]) (cs' := [_, _, _]) rfl (by rfl) rfl rfl rfl (by kernel_rfl) (by rfl) HM44.out 1 rfl rfl rfl rfl covS_nil rfl ?_
    rintro W46 hm45 -
    have HM47 := Lib.hid hm45
    clear hm45
    refine wpS_this [2] rfl (by kernel_rfl) (by simp only [pickL, nthL, List.cons_append, List.nil_append]; rfl) ?_
    repeat (go_big_quiet_step (fail))
    refine wpQuiet_nil ?_
    refine wpS_nil ?_
    refine then_normal ?_
    refine wp_ret ?_
    refine then_ret ?_
    refine ret_cell_tmp rfl HM47.out 0 rfl rfl Try.underlying25 rfl (by kernel_rfl) rfl rfl ?_
    exact doesU_ret (post := fun u => [nextT u (0, 0, []) 6, R]) (Mem.toNext (p := none) (c := 0) (t := []) (Mem.nilRow elemI (Mem.only (M := [_]) HM47.out [1] rfl))) rfl
  · have hq := hf.symm.trans hq
    simp only [Prod.mk.injEq] at hq
    obtain ⟨⟨r1, r2, r3⟩, r4⟩ := hq
    subst f1
    subst f2
    subst sf
    subst fe
    replace hm := Lib.hid hm
    replace hn := Lib.hid hn
    replace hg := Lib.hid hg
    have gx : (a1 == 1000000) = false := beq_eq_false_iff_ne.2 hx
    have hb := mayP_le hm.out
    have hb0 : 0 ≤ a1 := hb.1
    have hb1 : a1 ≤ 1000000 := hb.2
    clear hb
    clear hx
    clear hf
    refine wp_region_N [(0, 1), (1, 3), (2, 1), (3, 1), (4, 1), (5, 3), (6, 1), (7, 1), (8, 1), (9, 1), (10, 3), (11, 1), (12, 1)] (by kernel_rfl) ?_
    have Cb3 := Mem.cell HM8.out 1 rfl
    refine wpS_this [0] rfl (by kernel_rfl) (by simp only [pickL, nthL, List.cons_append, List.nil_append]; rfl) ?_
    repeat (go_big_quiet_step (fail))
    refine wpQuiet_nil ?_
    clear Cb3
    refine wpS_does1 (i := 1) (d := some 9) (rem := [_, _]) (out := [_, _, _]) rfl (by rfl) rfl Try.call31 (may_d R _ a1 a2 sa ha la) rfl HM8.out [2] rfl covS_nil rfl rfl ?_
    rintro W49 hm48 -
    rw [hm.out]
    have HM50 := Lib.hid hm48
    clear hm48
    simp only [Act.put, List.setIfInBounds_toArray, List.set_cons_succ, List.set_cons_zero]
    refine wpS_this [2, 3, 4] rfl (by kernel_rfl) (by simp only [pickL, nthL, List.cons_append, List.nil_append]; rfl) ?_
    repeat (go_big_quiet_step (fail))
    refine wpQuiet_nil ?_
    refine wpS_does1 (i := 5) (d := some 13) (rem := [_, _, _]) (out := [_, _, _]) rfl (by rfl) rfl Try.call62 (inode_d n) rfl HM50.out [] rfl covS_nil rfl rfl ?_
    rintro W52 hm51 -
    rw [hn.out]
    have HM53 := Lib.hid hm51
    clear hm51
    simp only [Act.put, List.setIfInBounds_toArray, List.set_cons_succ, List.set_cons_zero]
    refine wpS_this [6, 7, 8, 9] rfl (by kernel_rfl) (by simp only [pickL, nthL, List.cons_append, List.nil_append]; rfl) ?_
    repeat (go_big_quiet_step (fail))
    refine wpQuiet_nil ?_
    refine wpS_does1 (i := 10) (d := some 18) (rem := [_, _]) (out := [_, _, _]) rfl (by rfl) rfl Try.call63 (tgt_d R _ st ht lt) rfl HM53.out [0] rfl covS_nil rfl rfl ?_
    rintro W55 hm54 -
    rw [hg.out]
    have HM56 := Lib.hid hm54
    clear hm54
    simp only [Act.put, List.setIfInBounds_toArray, List.set_cons_succ, List.set_cons_zero]
    refine wpS_this [11, 12] rfl (by kernel_rfl) (by simp only [pickL, nthL, List.cons_append, List.nil_append]; rfl) ?_
    repeat (go_big_quiet_step (fail))
    refine wpQuiet_nil ?_
    refine wpS_nil ?_
    refine then_normal ?_
    refine wp_cond_false rfl ?_
    refine wp_skip ?_
    refine then_normal ?_
    refine wp_seq ?_
    refine wp_seq ?_
    refine wp_region_N [(0, 1), (1, 1), (2, 1)] (by kernel_rfl) ?_
    have Cb3 := Mem.cell HM56.out 2 rfl
    refine wpS_this [0, 1, 2] rfl (by kernel_rfl) (by simp only [pickL, nthL, List.cons_append, List.nil_append]; rfl) ?_
    repeat (go_big_quiet_step (fail))
    refine wpQuiet_nil ?_
    clear Cb3
    refine wpS_nil ?_
    refine then_normal ?_
    refine wp_cond_false rfl ?_
    refine wp_skip ?_
    refine then_normal ?_
    refine wp_seq ?_
    refine wp_region_N [(0, 1), (1, 1), (2, 1), (3, 1), (4, 1), (5, 3), (6, 3), (7, 1)] (by kernel_rfl) ?_
    have Cb3 := Mem.cell HM56.out 2 rfl
    refine wpS_this [0, 1, 2, 3, 4] rfl (by kernel_rfl) (by simp only [pickL, nthL, List.cons_append, List.nil_append]; rfl) ?_
    repeat (go_big_quiet_step (fail))
    refine wpQuiet_nil ?_
    clear Cb3
    refine wpS_doesU3 (i := 5) (d := some 31) (rem := [_, _]) rfl (by rfl) rfl Try.call69 (made_d R _ (a1 + 1) n st ht lt) rfl rfl rfl HM56.out [0] rfl covS_nil (fun _ => rfl) rfl ?_
    rintro u59 W58 hm57 -
    obtain ⟨q, k, rfl, hm57q⟩ := Mem.plan rfl hm57
    clear hm57
    have HM60 := Lib.hid hm57q
    clear hm57q
    simp only [Act.put, List.setIfInBounds_toArray, List.set_cons_succ, List.set_cons_zero]
    refine wpS_storeA (i := 6) (L2 := [_, _, _]) (cs' := [_, _, _]) rfl (by rfl) rfl rfl rfl (by kernel_rfl) (by rfl) HM60.out 2 rfl rfl rfl rfl covS_nil rfl ?_
    rintro W62 hm61 -
    have HM63 := Lib.hid hm61
    clear hm61
    refine wpS_this [7] rfl (by kernel_rfl) (by simp only [pickL, nthL, List.cons_append, List.nil_append]; rfl) ?_
    repeat (go_big_quiet_step (fail))
    refine wpQuiet_nil ?_
    refine wpS_nil ?_
    refine then_normal ?_
    refine wp_ret ?_
    refine ret_cell_tmp rfl HM63.out 0 rfl rfl Try.underlying25 rfl (by kernel_rfl) rfl rfl ?_
    exact doesU_ret (post := fun u => [nextT u (a1 + 1, n, st) 0, R]) (Mem.toNext (Mem.only (M := [_, _]) HM63.out [1, 1] rfl)) rfl
end
end Go.Proofs.Ytdfmfcbeebfdhaa
