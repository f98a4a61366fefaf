/- Vaults: VaultMerges. -/
import Derived.Test.YthaabnlhhfnalaaVtY
import Derived.Test.YthaabnlhhfnalaaVtJ
namespace Go.Proofs.Ythaabnlhhfnalaa
open Go Go.RowKit Go.BigFrame

set_option maxHeartbeats 4000000 in
set_option maxRecDepth 100000 in
theorem vmerges_d (R : At) (v : Value) (l : List Int) (hR : ∀ W H, R.p W H → RowAt elemI W v l) (turn : Int) : Does Try.prog 5 #[v, .int .i64 turn] [R] (.bool true) [R] := by
  intro w H hp
  have HM0 := Lib.hid (mem_refl hp)
  clear hp
  obtain ⟨p0, cap0, rfl, -⟩ := (HM0.out.row 0 rfl hR).form
  go_enter Try.func5, Try.ntmps5
  refine wp_seq ?_
  refine wp_region_N [(0, 1)] (by kernel_rfl) ?_
  refine wpS_this [0] rfl (by kernel_rfl) (by simp only [pickL, nthL, List.cons_append, List.nil_append]; rfl) ?_
  repeat (go_big_quiet_step (fail))
  refine wpQuiet_nil ?_
  refine wpS_nil ?_
  refine then_normal ?_
  refine wp_seq ?_
  refine wp_seq ?_
  by_cases hl0 : 20 < l.length
  · have g1 : decide ((20 : Int) < (l.length : Int)) = true := decide_eq_true (by omega)
    have g1' : decide (20 < l.length) = true := decide_eq_true hl0
    replace hl0 := Lib.hid hl0
    refine wp_region_N [(0, 1), (1, 1), (2, 1)] (by kernel_rfl) ?_
    refine wpS_this [0, 1, 2] rfl (by kernel_rfl) (by simp only [pickL, nthL, List.cons_append, List.nil_append]; rfl) ?_
    repeat (go_big_quiet_step (fail))
    refine wpQuiet_nil ?_
    refine wpS_nil ?_
    refine then_normal ?_
    refine wp_cond_true rfl ?_
    refine wp_seq ?_
    refine wp_region_N [(0, 3), (1, 1)] (by kernel_rfl) ?_
    refine wpS_does0 (i := 0) (d := some 22) (rem := [_]) (out := [_]) rfl (by rfl) rfl Try.call7 (vawake_d)  HM0.out [] rfl covS_nil rfl rfl ?_
    rintro W2 hm1 -
    have HM3 := Lib.hid hm1
    clear hm1
    simp only [Act.put, List.setIfInBounds_toArray, List.set_cons_succ, List.set_cons_zero]
    refine wpS_this [1] rfl (by kernel_rfl) (by simp only [pickL, nthL, List.cons_append, List.nil_append]; rfl) ?_
    repeat (go_big_quiet_step (fail))
    refine wpQuiet_nil ?_
    refine wpS_nil ?_
    refine then_normal ?_
    refine wp_ret ?_
    refine then_ret ?_
    refine bodyPost_ret (results_tmp rfl _ _ _) rfl ?_
    exact does_ret (Mem.only (M := [_]) HM3.out [0] rfl) rfl rfl
  · have g1 : decide ((20 : Int) < (l.length : Int)) = false := decide_eq_false (by omega)
    have g1' : decide (20 < l.length) = false := decide_eq_false hl0
    have hl20 : l.length ≤ 20 := by omega
    replace hl0 := Lib.hid hl0
    refine wp_region_N [(0, 1), (1, 1), (2, 1)] (by kernel_rfl) ?_
    refine wpS_this [0, 1, 2] rfl (by kernel_rfl) (by simp only [pickL, nthL, List.cons_append, List.nil_append]; rfl) ?_
    repeat (go_big_quiet_step (fail))
    refine wpQuiet_nil ?_
    refine wpS_nil ?_
    refine then_normal ?_
    refine wp_cond_false rfl ?_
    refine wp_skip ?_
    refine then_normal ?_
    refine wp_seq ?_
    refine wp_region_N [(0, 1), (1, 3), (2, 3)] (by kernel_rfl) ?_
    refine wpS_read (i := 0) (d := some 23) (v := bgV noB.k (.slice none 0 0)) rfl (by rfl) (by kernel_rfl) rfl ?_
    simp only [Act.put, List.setIfInBounds_toArray, List.set_cons_succ, List.set_cons_zero]
    refine wpS_alloc (i := 1) (dd := 5) (z := bgV noB.k (.slice none 0 0)) (cs := (bgC noB.k (.slice none 0 0)).toArray) rfl (by rfl) rfl (by kernel_rfl) rfl HM0.out covS_nil rfl ?_
    rintro b6 W5 hm4 -
    have HM7 := Lib.hid hm4
    clear hm4
    simp only [Act.put, List.setIfInBounds_toArray, List.set_cons_succ, List.set_cons_zero]
    refine wpS_storeA (i := 2) (L2 := [_]) (cs' := bgC (noB.k) (.slice none 0 0)) rfl (by rfl) rfl rfl rfl (by kernel_rfl) (bgC_one _ _ _) HM7.out 0 rfl rfl (by kernel_rfl) (by kernel_rfl) covS_nil rfl ?_
    rintro W9 hm8 -
    have HM10 := Lib.hid hm8
    clear hm8
    refine wpS_nil ?_
    refine then_normal ?_
    refine wp_seq ?_
    refine wp_region_N [(0, 1), (1, 3), (2, 1)] (by kernel_rfl) ?_
    refine wpS_loadA (i := 0) (d := some 24) (cells := bgC (noB.k) (.slice none 0 0)) rfl (by rfl) rfl rfl (HM10.out.part 0 rfl (bgC_all)) Try.underlying43 rfl (by kernel_rfl) rfl ?_
    simp only [Act.put, List.setIfInBounds_toArray, List.set_cons_succ, List.set_cons_zero]
    refine wpS_buildN elemB (i := 1) (dd := 25) (n := 1) (xs := [⟨noB.k, none, 0, 0⟩]) (cs := (bgC noB.k (.slice none 0 0) ++ []).toArray) rfl (by rfl) (fun _ => by kernel_rfl) rfl rfl HM10.out covS_nil rfl ?_
    rintro b13 W14 hm15 -
    have HM16 := Lib.hid hm15
    clear hm15
    simp only [Act.put, List.setIfInBounds_toArray, List.set_cons_succ, List.set_cons_zero]
    refine wpS_this [2] rfl (by kernel_rfl) (by simp only [pickL, nthL, List.cons_append, List.nil_append]; rfl) ?_
    repeat (go_big_quiet_step (fail))
    refine wpQuiet_nil ?_
    refine wpS_nil ?_
    refine then_normal ?_
    refine wp_seq ?_
    refine wp_seq ?_
    have HNL := Lib.hid (Mem.nilL HM16.out)
    refine wp_region_N [(0, 1), (1, 1), (2, 1)] (by kernel_rfl) ?_
    refine wpS_this [0, 1, 2] rfl (by kernel_rfl) (by simp only [pickL, nthL, List.cons_append, List.nil_append]; rfl) ?_
    repeat (go_big_quiet_step (fail))
    refine wpQuiet_nil ?_
    refine wpS_nil ?_
    refine then_normal ?_
    refine wp_block ?_
    refine wp_loop_F [4, 6, 7, 8, 9, 10, 11, 28, 29, 30, 31, 32, 33, 34, 35, 36, 37, 38, 39, 40, 41, 42, 43, 44, 45, 46, 47, 48, 49, 50, 51, 52, 53, 54, 55, 56, 57, 58, 59, 60] (fun n vs W' => ∃ (i : Nat) (b : Bg) (p : Option Addr) (c : Nat) (hs : List Hb) (bs : List Bg) (rs : List At) (pa : Option Addr) (ca : Nat), n = l.length - i ∧ vs 28 = .int .i64 (i : Int) ∧ vs 6 = .slice pa hs.length ca ∧ i ≤ l.length ∧ hs.length = i + 1 ∧ Ch bs b ∧ Bs hs bs (listT rs) ∧ Reads elemV (listT rs) (.slice p b.v.length c) b.v ∧ Mem [boxT b6 (.cells (bgC b.k ((.slice p b.v.length c))).toArray 43 (0, 0)), rowT elemB (.slice pa hs.length ca) hs, listT rs, R] H w W') (n0 := l.length) ?_ ?_
    · exact ⟨0, noB, none, 0, _, [noB], [], _, _, rfl, rfl, rfl, Nat.zero_le _, rfl, Ch.start, Bs.start, vNil _, (Mem.only (M := [_, _, _, _]) HNL.out [2, 1, 0, 0] rfl)⟩
    rintro n vs W' ⟨i, b, p, c, hs, bs, rs, pa, ca, rfl, e28, e6, hi, hhl', hCh', hBs', hrb', hm⟩
    simp only [putAll, List.map_cons, List.map_nil, Act.put, List.setIfInBounds_toArray, List.set_cons_succ, List.set_cons_zero]
    rw [e28, e6]
    clear e28 e6
    have hhl := Lib.hid hhl'
    clear hhl'
    have hCh := Lib.hid hCh'
    clear hCh'
    have hBs := Lib.hid hBs'
    clear hBs'
    have hrb := Lib.hid hrb'
    clear hrb'
    have hlb := Lib.hid (hCh.out.may b (List.mem_of_getElem? hCh.out.last)).len
    have hi20 : i ≤ 20 := by have := hl20; omega
    have HM17 := Lib.hid hm
    clear hm
    refine wp_seq ?_
    refine wp_region_N [(0, 1)] (by kernel_rfl) ?_
    refine wpS_this [0] rfl (by kernel_rfl) (by simp only [pickL, nthL, List.cons_append, List.nil_append]; rfl) ?_
    repeat (go_big_quiet_step (fail))
    refine wpQuiet_nil ?_
    refine wpS_nil ?_
    refine then_normal ?_
    refine wp_seq ?_
    refine wp_cond_split rfl (fun h18 => ?_) (fun h18 => ?_)
    · have hi1 : i + 1 ≤ l.length := by have : (i : Int) < ((l.length : Nat) : Int) := (by simpa using h18); omega
      clear h18
      obtain ⟨y, hy'⟩ : ∃ y, l[i]? = some y := ⟨_, List.getElem?_eq_getElem (hi1)⟩
      have hy := Lib.hid hy'
      clear hy'
      refine wp_skip ?_
      refine then_normal ?_
      refine wp_seq ?_
      refine wp_block ?_
      refine wp_seq ?_
      refine wp_region_N [(0, 1), (1, 1), (2, 1), (3, 1), (4, 1)] (by kernel_rfl) ?_
      refine wpS_this [0] rfl (by kernel_rfl) (by simp only [pickL, nthL, List.cons_append, List.nil_append]; rfl) ?_
      repeat (go_big_quiet_step (fail))
      refine wpQuiet_nil ?_
      refine wpS_index (E := elemI) (i := 1) (d := some 31) rfl (by rfl) rfl rfl rfl (HM17.out.row 3 rfl hR) (hy.out) rfl ?_
      intro eb19 eo20 hc21
      simp only [Act.put, List.setIfInBounds_toArray, List.set_cons_succ, List.set_cons_zero]
      refine wpS_load1 (i := 2) (d := some 32) (u := .int .i64 y) rfl (by rfl) rfl rfl (hc21 0 _ rfl) Try.underlying3 rfl rfl ?_
      simp only [Act.put, List.setIfInBounds_toArray, List.set_cons_succ, List.set_cons_zero]
      refine wpS_this [3, 4] rfl (by kernel_rfl) (by simp only [pickL, nthL, List.cons_append, List.nil_append]; rfl) ?_
      repeat (go_big_quiet_step (fail))
      refine wpQuiet_nil ?_
      refine wpS_nil ?_
      refine then_normal ?_
      refine wp_seq ?_
      refine wp_region_N [(0, 1), (1, 3), (2, 3)] (by kernel_rfl) ?_
      refine wpS_read (i := 0) (d := some 33) (v := vV (fun _ => 0)) rfl (by rfl) (by kernel_rfl) rfl ?_
      simp only [Act.put, List.setIfInBounds_toArray, List.set_cons_succ, List.set_cons_zero]
      refine wpS_alloc (i := 1) (dd := 9) (z := vV (fun _ => 0)) (cs := (vcC (fun _ => 0)).toArray) rfl (by rfl) rfl (by kernel_rfl) rfl HM17.out covS_nil rfl ?_
      rintro b24 W23 hm22 -
      have HM25 := Lib.hid hm22
      clear hm22
      simp only [Act.put, List.setIfInBounds_toArray, List.set_cons_succ, List.set_cons_zero]
      refine wpS_storeA (i := 2) (L2 := [_, _, _, _]) (cs' := vcC (fun _ => 0)) rfl (by rfl) rfl rfl rfl (by kernel_rfl) (vcC_one _) HM25.out 0 rfl rfl (by kernel_rfl) (by kernel_rfl) covS_nil rfl ?_
      rintro W27 hm26 -
      have HM28 := Lib.hid hm26
      clear hm26
      refine wpS_nil ?_
      refine then_normal ?_
      refine wp_seq ?_
      refine wp_seq ?_
      obtain ⟨q, hq'⟩ : ∃ q, bits .and .i64 y 1 = q := ⟨_, rfl⟩
      have hbq := Lib.hid hq'
      clear hq'
      by_cases hq1 : q = 1
      · have g9 : (q == 1) = true := beq_iff_eq.2 hq1
        replace hq1 := Lib.hid hq1
        refine wp_region_N [(0, 1), (1, 1), (2, 1)] (by kernel_rfl) ?_
        refine wpS_this [0] rfl (by kernel_rfl) (by simp only [pickL, nthL, List.cons_append, List.nil_append]; rfl) ?_
        repeat (go_big_quiet_step (fail))
        refine wpQuiet_nil ?_
        refine wpS_this [1] rfl (by kernel_rfl) (by simp only [pickL, nthL, List.cons_append, List.nil_append]; rfl) ?_
        repeat (go_big_quiet_step (fail))
        refine wpQuiet_nil ?_
        rw [hbq.out]
        refine wpS_this [2] rfl (by kernel_rfl) (by simp only [pickL, nthL, List.cons_append, List.nil_append]; rfl) ?_
        repeat (go_big_quiet_step (fail))
        refine wpQuiet_nil ?_
        refine wpS_nil ?_
        refine then_normal ?_
        refine wp_cond_true rfl ?_
        refine wp_region_N [(0, 1), (1, 1), (2, 3)] (by kernel_rfl) ?_
        refine wpS_this [0] rfl (by kernel_rfl) (by simp only [pickL, nthL, List.cons_append, List.nil_append]; rfl) ?_
        repeat (go_big_quiet_step (fail))
        refine wpQuiet_nil ?_
        refine wpS_loadA (i := 1) (d := some 38) (cells := vcC (b.k)) rfl (by rfl) rfl rfl (HM28.out.part 1 rfl (bgC_vc)) Try.underlying40 rfl (by kernel_rfl) rfl ?_
        simp only [Act.put, List.setIfInBounds_toArray, List.set_cons_succ, List.set_cons_zero]
        refine wpS_storeA (i := 2) (L2 := [_, _, _, _]) (cs' := vcC (b.k)) rfl (by rfl) rfl rfl rfl (by kernel_rfl) (vcC_one _) HM28.out 0 rfl rfl (by kernel_rfl) (by kernel_rfl) covS_nil rfl ?_
        rintro W30 hm29 -
        have HM31 := Lib.hid hm29
        clear hm29
        refine wpS_nil ?_
        refine then_normal ?_
        refine wp_seq ?_
        obtain ⟨nd, hnd'⟩ : ∃ z, wrap64 ((IntKind.u64.wrap y).tmod 3) = z := ⟨_, rfl⟩
        obtain ⟨d, e, hp'⟩ : ∃ a c, putBR b b.k (nd, (i : Int) + 1) kX1 = (a, c) := ⟨_, _, rfl⟩
        have hnd := Lib.hid hnd'
        clear hnd'
        have hp := Lib.hid hp'
        clear hp'
        refine wp_region_N [(0, 1), (1, 1), (2, 1), (3, 1), (4, 1), (5, 1), (6, 1), (7, 1), (8, 1), (9, 3), (10, 1), (11, 1), (12, 1), (13, 3), (14, 3), (15, 1)] (by kernel_rfl) ?_
        refine wpS_loadA (i := 0) (d := some 40) (cells := bgC (b.k) ((.slice p b.v.length c))) rfl (by rfl) rfl rfl (HM31.out.part 1 rfl (bgC_all)) Try.underlying43 rfl (by kernel_rfl) rfl ?_
        simp only [Act.put, List.setIfInBounds_toArray, List.set_cons_succ, List.set_cons_zero]
        refine wpS_loadA (i := 1) (d := some 41) (cells := vcC (b.k)) rfl (by rfl) rfl rfl (HM31.out.cells0 0 rfl) Try.underlying40 rfl (by kernel_rfl) rfl ?_
        simp only [Act.put, List.setIfInBounds_toArray, List.set_cons_succ, List.set_cons_zero]
        refine wpS_this [2, 3, 4] rfl (by kernel_rfl) (by simp only [pickL, nthL, List.cons_append, List.nil_append]; rfl) ?_
        repeat (go_big_quiet_step (fail))
        refine wpQuiet_nil ?_
        refine wpS_this [5] rfl (by kernel_rfl) (by simp only [pickL, nthL, List.cons_append, List.nil_append]; rfl) ?_
        repeat (go_big_quiet_step (fail))
        refine wpQuiet_nil ?_
        rw [hnd.out]
        refine wpS_this [6, 7, 8] rfl (by kernel_rfl) (by simp only [pickL, nthL, List.cons_append, List.nil_append]; rfl) ?_
        repeat (go_big_quiet_step (fail))
        refine wpQuiet_nil ?_
        refine wpS_doesU4 (i := 9) (d := some 49) (rem := [_, _, _, _]) rfl (by rfl) rfl Try.call21 (rputBag_d (listT rs) _ b hrb.out (Nat.le_trans hlb.out (by decide)) b.k nd ((i : Int) + 1) kX1 d e hp.out) rfl rfl rfl rfl HM31.out [3] rfl covS_nil (fun _ => rfl) rfl ?_
        rintro u34 W33 hm32 -
        obtain ⟨pc, cc, rfl, hm32q⟩ := Mem.bagE rfl hm32
        clear hm32
        have HM35 := Lib.hid hm32q
        clear hm32q
        simp only [Act.put, List.setIfInBounds_toArray, List.set_cons_succ, List.set_cons_zero]
        refine wpS_this [10, 11, 12] rfl (by kernel_rfl) (by simp only [pickL, nthL, List.cons_append, List.nil_append]; rfl) ?_
        repeat (go_big_quiet_step (fail))
        refine wpQuiet_nil ?_
        refine wpS_alloc (i := 13) (dd := 10) (z := bgV noB.k (.slice none 0 0)) (cs := (bgC noB.k (.slice none 0 0)).toArray) rfl (by rfl) rfl (by kernel_rfl) rfl HM35.out covS_nil rfl ?_
        rintro b38 W37 hm36 -
        have HM39 := Lib.hid hm36
        clear hm36
        simp only [Act.put, List.setIfInBounds_toArray, List.set_cons_succ, List.set_cons_zero]
        refine wpS_storeA (i := 14) (L2 := [_, _, _, _, _, _]) (cs' := bgC (d.k) (.slice pc d.v.length cc)) rfl (by rfl) rfl rfl rfl (by kernel_rfl) (bgC_one _ _ _) HM39.out 0 rfl rfl (by kernel_rfl) (by kernel_rfl) covS_nil rfl ?_
        rintro W41 hm40 -
        have HM42 := Lib.hid hm40
        clear hm40
        refine wpS_this [15] rfl (by kernel_rfl) (by simp only [pickL, nthL, List.cons_append, List.nil_append]; rfl) ?_
        repeat (go_big_quiet_step (fail))
        refine wpQuiet_nil ?_
        refine wpS_nil ?_
        refine then_normal ?_
        refine wp_seq ?_
        refine wp_seq ?_
        by_cases he0 : e = 0
        · have g12 : (e != 0) = false := by rw [he0]; rfl
          subst he0
          refine wp_region_N [(0, 1), (1, 1)] (by kernel_rfl) ?_
          refine wpS_this [0, 1] rfl (by kernel_rfl) (by simp only [pickL, nthL, List.cons_append, List.nil_append]; rfl) ?_
          repeat (go_big_quiet_step (fail))
          refine wpQuiet_nil ?_
          refine wpS_nil ?_
          refine then_normal ?_
          refine wp_cond_false rfl ?_
          refine wp_skip ?_
          refine then_normal ?_
          refine wp_seq ?_
          refine wp_region_N [(0, 1), (1, 3)] (by kernel_rfl) ?_
          refine wpS_loadA (i := 0) (d := some 55) (cells := bgC (d.k) (.slice pc d.v.length cc)) rfl (by rfl) rfl rfl (HM42.out.part 0 rfl (bgC_all)) Try.underlying43 rfl (by kernel_rfl) rfl ?_
          simp only [Act.put, List.setIfInBounds_toArray, List.set_cons_succ, List.set_cons_zero]
          refine wpS_storeA (i := 1) (L2 := [_, _, _, _, _, _]) (cs' := bgC (d.k) (.slice pc d.v.length cc)) rfl (by rfl) rfl rfl rfl (by kernel_rfl) (bgC_one _ _ _) HM42.out 4 rfl rfl (by kernel_rfl) (by kernel_rfl) covS_nil rfl ?_
          rintro W44 hm43 -
          have HM45 := Lib.hid hm43
          clear hm43
          refine wpS_nil ?_
          refine then_normal ?_
          refine wp_region_N [(0, 1), (1, 1), (2, 3), (3, 3), (4, 1)] (by kernel_rfl) ?_
          refine wpS_this [0] rfl (by kernel_rfl) (by simp only [pickL, nthL, List.cons_append, List.nil_append]; rfl) ?_
          repeat (go_big_quiet_step (fail))
          refine wpQuiet_nil ?_
          refine wpS_loadA (i := 1) (d := some 57) (cells := bgC (d.k) (.slice pc d.v.length cc)) rfl (by rfl) rfl rfl (HM45.out.part 0 rfl (bgC_all)) Try.underlying43 rfl (by kernel_rfl) rfl ?_
          simp only [Act.put, List.setIfInBounds_toArray, List.set_cons_succ, List.set_cons_zero]
          refine wpS_buildN elemB (i := 2) (dd := 58) (n := 1) (xs := [⟨d.k, pc, d.v.length, cc⟩]) (cs := (bgC d.k (.slice pc d.v.length cc) ++ []).toArray) rfl (by rfl) (fun _ => by kernel_rfl) rfl rfl HM45.out covS_nil rfl ?_
          rintro b48 W49 hm50 -
          have HM51 := Lib.hid hm50
          clear hm50
          simp only [Act.put, List.setIfInBounds_toArray, List.set_cons_succ, List.set_cons_zero]
          refine wpS_append (E := elemB) (i := 3) (d := some 59) (L2 := [_, _, _, _, _, _, _]) rfl (by rfl) rfl HM51.out 6 rfl rfl (Mem.src HM51.out 0 rfl rowT_reads) rfl (by rw [hhl.out]; show (i + 1 + 1) * 88 ≤ _; omega) rfl covS_nil rfl ?_
          rintro u54 W55 hm56 -
          obtain ⟨u54p, u54c, rfl⟩ := row_form (Mem.src hm56 0 rfl rowT_reads)
          have HM57 := Lib.hid hm56
          clear hm56
          simp only [Act.put, List.setIfInBounds_toArray, List.set_cons_succ, List.set_cons_zero]
          refine wpS_this [4] rfl (by kernel_rfl) (by simp only [pickL, nthL, List.cons_append, List.nil_append]; rfl) ?_
          repeat (go_big_quiet_step (fail))
          refine wpQuiet_nil ?_
          refine wpS_nil ?_
          refine block_normal ?_
          refine then_normal ?_
          have HM58 := Lib.hid (Mem.cons1 (Mem.only (M := [_, _, _, _, _, _, _, _]) HM57.out [4, 4, 0, 0, 0, 0, 0, 0] rfl))
          refine wp_region_N [(0, 1), (1, 1)] (by kernel_rfl) ?_
          refine wpS_this [0, 1] rfl (by kernel_rfl) (by simp only [pickL, nthL, List.cons_append, List.nil_append]; rfl) ?_
          repeat (go_big_quiet_step (fail))
          refine wpQuiet_nil ?_
          refine wpS_nil ?_
          refine then_normal ?_
          refine ⟨by kernel_rfl, ?_⟩
          exact ⟨l.length - (i + 1), by omega, i + 1, d, pc, cc, _, _, _, _, _, rfl, rfl, rfl, hi1, (by rw [List.length_append, hhl.out]; rfl), hCh.out.step hp.out, hBs.out.step d pc cc, vL 0 rfl rowT_reads, (Mem.only (M := [_, _, _, _]) HM58.out [3, 1, 0, 3] rfl)⟩
        · have g12 : (e != 0) = true := bne_iff_ne.2 he0
          replace he0 := Lib.hid he0
          refine wp_region_N [(0, 1), (1, 1)] (by kernel_rfl) ?_
          refine wpS_this [0, 1] rfl (by kernel_rfl) (by simp only [pickL, nthL, List.cons_append, List.nil_append]; rfl) ?_
          repeat (go_big_quiet_step (fail))
          refine wpQuiet_nil ?_
          refine wpS_nil ?_
          refine then_normal ?_
          refine wp_cond_true rfl ?_
          refine wp_seq ?_
          refine wp_region_N [(0, 3), (1, 1)] (by kernel_rfl) ?_
          refine wpS_does0 (i := 0) (d := some 54) (rem := [_, _, _, _, _, _, _]) (out := [_, _, _, _, _, _, _]) rfl (by rfl) rfl Try.call7 (vawake_d)  HM42.out [] rfl covS_nil rfl rfl ?_
          rintro W60 hm59 -
          have HM61 := Lib.hid hm59
          clear hm59
          simp only [Act.put, List.setIfInBounds_toArray, List.set_cons_succ, List.set_cons_zero]
          refine wpS_this [1] rfl (by kernel_rfl) (by simp only [pickL, nthL, List.cons_append, List.nil_append]; rfl) ?_
          repeat (go_big_quiet_step (fail))
          refine wpQuiet_nil ?_
          refine wpS_nil ?_
          refine then_normal ?_
          refine wp_ret ?_
          refine then_ret (block_ret (then_ret (then_ret (block_ret (then_ret ?_)))))
          refine bodyPost_ret (results_tmp rfl _ _ _) rfl ?_
          exact does_ret (Mem.only (M := [_]) HM61.out [6] rfl) rfl rfl
      · have g9 : (q == 1) = false := beq_eq_false_iff_ne.2 hq1
        replace hq1 := Lib.hid hq1
        refine wp_region_N [(0, 1), (1, 1), (2, 1)] (by kernel_rfl) ?_
        refine wpS_this [0] rfl (by kernel_rfl) (by simp only [pickL, nthL, List.cons_append, List.nil_append]; rfl) ?_
        repeat (go_big_quiet_step (fail))
        refine wpQuiet_nil ?_
        refine wpS_this [1] rfl (by kernel_rfl) (by simp only [pickL, nthL, List.cons_append, List.nil_append]; rfl) ?_
        repeat (go_big_quiet_step (fail))
        refine wpQuiet_nil ?_
        rw [hbq.out]
        refine wpS_this [2] rfl (by kernel_rfl) (by simp only [pickL, nthL, List.cons_append, List.nil_append]; rfl) ?_
        repeat (go_big_quiet_step (fail))
        refine wpQuiet_nil ?_
        refine wpS_nil ?_
        refine then_normal ?_
        refine wp_cond_false rfl ?_
        refine wp_skip ?_
        refine then_normal ?_
        refine wp_seq ?_
        obtain ⟨nd, hnd'⟩ : ∃ z, wrap64 ((IntKind.u64.wrap y).tmod 3) = z := ⟨_, rfl⟩
        obtain ⟨d, e, hp'⟩ : ∃ a c, putBR b (fun _ => 0) (nd, (i : Int) + 1) kX1 = (a, c) := ⟨_, _, rfl⟩
        have hnd := Lib.hid hnd'
        clear hnd'
        have hp := Lib.hid hp'
        clear hp'
        refine wp_region_N [(0, 1), (1, 1), (2, 1), (3, 1), (4, 1), (5, 1), (6, 1), (7, 1), (8, 1), (9, 3), (10, 1), (11, 1), (12, 1), (13, 3), (14, 3), (15, 1)] (by kernel_rfl) ?_
        refine wpS_loadA (i := 0) (d := some 40) (cells := bgC (b.k) ((.slice p b.v.length c))) rfl (by rfl) rfl rfl (HM28.out.part 1 rfl (bgC_all)) Try.underlying43 rfl (by kernel_rfl) rfl ?_
        simp only [Act.put, List.setIfInBounds_toArray, List.set_cons_succ, List.set_cons_zero]
        refine wpS_loadA (i := 1) (d := some 41) (cells := vcC (fun _ => 0)) rfl (by rfl) rfl rfl (HM28.out.cells0 0 rfl) Try.underlying40 rfl (by kernel_rfl) rfl ?_
        simp only [Act.put, List.setIfInBounds_toArray, List.set_cons_succ, List.set_cons_zero]
        refine wpS_this [2, 3, 4] rfl (by kernel_rfl) (by simp only [pickL, nthL, List.cons_append, List.nil_append]; rfl) ?_
        repeat (go_big_quiet_step (fail))
        refine wpQuiet_nil ?_
        refine wpS_this [5] rfl (by kernel_rfl) (by simp only [pickL, nthL, List.cons_append, List.nil_append]; rfl) ?_
        repeat (go_big_quiet_step (fail))
        refine wpQuiet_nil ?_
        rw [hnd.out]
        refine wpS_this [6, 7, 8] rfl (by kernel_rfl) (by simp only [pickL, nthL, List.cons_append, List.nil_append]; rfl) ?_
        repeat (go_big_quiet_step (fail))
        refine wpQuiet_nil ?_
        refine wpS_doesU4 (i := 9) (d := some 49) (rem := [_, _, _, _]) rfl (by rfl) rfl Try.call21 (rputBag_d (listT rs) _ b hrb.out (Nat.le_trans hlb.out (by decide)) (fun _ => 0) nd ((i : Int) + 1) kX1 d e hp.out) rfl rfl rfl rfl HM28.out [3] rfl covS_nil (fun _ => rfl) rfl ?_
        rintro u64 W63 hm62 -
        obtain ⟨pc, cc, rfl, hm62q⟩ := Mem.bagE rfl hm62
        clear hm62
        have HM65 := Lib.hid hm62q
        clear hm62q
        simp only [Act.put, List.setIfInBounds_toArray, List.set_cons_succ, List.set_cons_zero]
        refine wpS_this [10, 11, 12] rfl (by kernel_rfl) (by simp only [pickL, nthL, List.cons_append, List.nil_append]; rfl) ?_
        repeat (go_big_quiet_step (fail))
        refine wpQuiet_nil ?_
        refine wpS_alloc (i := 13) (dd := 10) (z := bgV noB.k (.slice none 0 0)) (cs := (bgC noB.k (.slice none 0 0)).toArray) rfl (by rfl) rfl (by kernel_rfl) rfl HM65.out covS_nil rfl ?_
        rintro b68 W67 hm66 -
        have HM69 := Lib.hid hm66
        clear hm66
        simp only [Act.put, List.setIfInBounds_toArray, List.set_cons_succ, List.set_cons_zero]
        refine wpS_storeA (i := 14) (L2 := [_, _, _, _, _, _]) (cs' := bgC (d.k) (.slice pc d.v.length cc)) rfl (by rfl) rfl rfl rfl (by kernel_rfl) (bgC_one _ _ _) HM69.out 0 rfl rfl (by kernel_rfl) (by kernel_rfl) covS_nil rfl ?_
        rintro W71 hm70 -
        have HM72 := Lib.hid hm70
        clear hm70
        refine wpS_this [15] rfl (by kernel_rfl) (by simp only [pickL, nthL, List.cons_append, List.nil_append]; rfl) ?_
        repeat (go_big_quiet_step (fail))
        refine wpQuiet_nil ?_
        refine wpS_nil ?_
        refine then_normal ?_
        refine wp_seq ?_
        refine wp_seq ?_
        by_cases he0 : e = 0
        · have g12 : (e != 0) = false := by rw [he0]; rfl
          subst he0
          refine wp_region_N [(0, 1), (1, 1)] (by kernel_rfl) ?_
          refine wpS_this [0, 1] rfl (by kernel_rfl) (by simp only [pickL, nthL, List.cons_append, List.nil_append]; rfl) ?_
          repeat (go_big_quiet_step (fail))
          refine wpQuiet_nil ?_
          refine wpS_nil ?_
          refine then_normal ?_
          refine wp_cond_false rfl ?_
          refine wp_skip ?_
          refine then_normal ?_
          refine wp_seq ?_
          refine wp_region_N [(0, 1), (1, 3)] (by kernel_rfl) ?_
          refine wpS_loadA (i := 0) (d := some 55) (cells := bgC (d.k) (.slice pc d.v.length cc)) rfl (by rfl) rfl rfl (HM72.out.part 0 rfl (bgC_all)) Try.underlying43 rfl (by kernel_rfl) rfl ?_
          simp only [Act.put, List.setIfInBounds_toArray, List.set_cons_succ, List.set_cons_zero]
          refine wpS_storeA (i := 1) (L2 := [_, _, _, _, _, _]) (cs' := bgC (d.k) (.slice pc d.v.length cc)) rfl (by rfl) rfl rfl rfl (by kernel_rfl) (bgC_one _ _ _) HM72.out 4 rfl rfl (by kernel_rfl) (by kernel_rfl) covS_nil rfl ?_
          rintro W74 hm73 -
          have HM75 := Lib.hid hm73
          clear hm73
          refine wpS_nil ?_
          refine then_normal ?_
          refine wp_region_N [(0, 1), (1, 1), (2, 3), (3, 3), (4, 1)] (by kernel_rfl) ?_
          refine wpS_this [0] rfl (by kernel_rfl) (by simp only [pickL, nthL, List.cons_append, List.nil_append]; rfl) ?_
          repeat (go_big_quiet_step (fail))
          refine wpQuiet_nil ?_
          refine wpS_loadA (i := 1) (d := some 57) (cells := bgC (d.k) (.slice pc d.v.length cc)) rfl (by rfl) rfl rfl (HM75.out.part 0 rfl (bgC_all)) Try.underlying43 rfl (by kernel_rfl) rfl ?_
          simp only [Act.put, List.setIfInBounds_toArray, List.set_cons_succ, List.set_cons_zero]
          refine wpS_buildN elemB (i := 2) (dd := 58) (n := 1) (xs := [⟨d.k, pc, d.v.length, cc⟩]) (cs := (bgC d.k (.slice pc d.v.length cc) ++ []).toArray) rfl (by rfl) (fun _ => by kernel_rfl) rfl rfl HM75.out covS_nil rfl ?_
          rintro b78 W79 hm80 -
          have HM81 := Lib.hid hm80
          clear hm80
          simp only [Act.put, List.setIfInBounds_toArray, List.set_cons_succ, List.set_cons_zero]
          refine wpS_append (E := elemB) (i := 3) (d := some 59) (L2 := [_, _, _, _, _, _, _]) rfl (by rfl) rfl HM81.out 6 rfl rfl (Mem.src HM81.out 0 rfl rowT_reads) rfl (by rw [hhl.out]; show (i + 1 + 1) * 88 ≤ _; omega) rfl covS_nil rfl ?_
          rintro u84 W85 hm86 -
          obtain ⟨u84p, u84c, rfl⟩ := row_form (Mem.src hm86 0 rfl rowT_reads)
          have HM87 := Lib.hid hm86
          clear hm86
          simp only [Act.put, List.setIfInBounds_toArray, List.set_cons_succ, List.set_cons_zero]
          refine wpS_this [4] rfl (by kernel_rfl) (by simp only [pickL, nthL, List.cons_append, List.nil_append]; rfl) ?_
          repeat (go_big_quiet_step (fail))
          refine wpQuiet_nil ?_
          refine wpS_nil ?_
          refine block_normal ?_
          refine then_normal ?_
          have HM88 := Lib.hid (Mem.cons1 (Mem.only (M := [_, _, _, _, _, _, _, _]) HM87.out [4, 4, 0, 0, 0, 0, 0, 0] rfl))
          refine wp_region_N [(0, 1), (1, 1)] (by kernel_rfl) ?_
          refine wpS_this [0, 1] rfl (by kernel_rfl) (by simp only [pickL, nthL, List.cons_append, List.nil_append]; rfl) ?_
          repeat (go_big_quiet_step (fail))
          refine wpQuiet_nil ?_
          refine wpS_nil ?_
          refine then_normal ?_
          refine ⟨by kernel_rfl, ?_⟩
          exact ⟨l.length - (i + 1), by omega, i + 1, d, pc, cc, _, _, _, _, _, rfl, rfl, rfl, hi1, (by rw [List.length_append, hhl.out]; rfl), hCh.out.step hp.out, hBs.out.step d pc cc, vL 0 rfl rowT_reads, (Mem.only (M := [_, _, _, _]) HM88.out [3, 1, 0, 3] rfl)⟩
        · have g12 : (e != 0) = true := bne_iff_ne.2 he0
          replace he0 := Lib.hid he0
          refine wp_region_N [(0, 1), (1, 1)] (by kernel_rfl) ?_
          refine wpS_this [0, 1] rfl (by kernel_rfl) (by simp only [pickL, nthL, List.cons_append, List.nil_append]; rfl) ?_
          repeat (go_big_quiet_step (fail))
          refine wpQuiet_nil ?_
          refine wpS_nil ?_
          refine then_normal ?_
          refine wp_cond_true rfl ?_
          refine wp_seq ?_
          refine wp_region_N [(0, 3), (1, 1)] (by kernel_rfl) ?_
          refine wpS_does0 (i := 0) (d := some 54) (rem := [_, _, _, _, _, _, _]) (out := [_, _, _, _, _, _, _]) rfl (by rfl) rfl Try.call7 (vawake_d)  HM72.out [] rfl covS_nil rfl rfl ?_
          rintro W90 hm89 -
          have HM91 := Lib.hid hm89
          clear hm89
          simp only [Act.put, List.setIfInBounds_toArray, List.set_cons_succ, List.set_cons_zero]
          refine wpS_this [1] rfl (by kernel_rfl) (by simp only [pickL, nthL, List.cons_append, List.nil_append]; rfl) ?_
          repeat (go_big_quiet_step (fail))
          refine wpQuiet_nil ?_
          refine wpS_nil ?_
          refine then_normal ?_
          refine wp_ret ?_
          refine then_ret (block_ret (then_ret (then_ret (block_ret (then_ret ?_)))))
          refine bodyPost_ret (results_tmp rfl _ _ _) rfl ?_
          exact does_ret (Mem.only (M := [_]) HM91.out [6] rfl) rfl rfl
    · have hge : Hid (l.length ≤ i) := Lib.hid (by have : ¬ (i : Int) < ((l.length : Nat) : Int) := (by simpa using h18); omega)
      clear h18
      refine wp_exit ?_
      refine then_exit (then_exit (block_exit ?_))
      refine then_normal ?_
      refine wp_seq ?_
      refine wp_region_N [(0, 3), (1, 1)] (by kernel_rfl) ?_
      refine wpS_doesU1 (i := 0) (d := some 61) (rem := [_, _, _, _]) rfl (by rfl) rfl Try.call8 (lnew_d 100) rfl HM17.out [] rfl covS_nil (fun _ => rfl) rfl ?_
      rintro u94 W93 hm92 -
      obtain ⟨dl, rfl, hm92q⟩ := Mem.lgN hm92
      clear hm92
      have HM95 := Lib.hid hm92q
      clear hm92q
      simp only [Act.put, List.setIfInBounds_toArray, List.set_cons_succ, List.set_cons_zero]
      refine wpS_this [1] rfl (by kernel_rfl) (by simp only [pickL, nthL, List.cons_append, List.nil_append]; rfl) ?_
      repeat (go_big_quiet_step (fail))
      refine wpQuiet_nil ?_
      refine wpS_nil ?_
      refine then_normal ?_
      refine wp_seq ?_
      refine wp_region_N [(0, 1), (1, 3), (2, 1)] (by kernel_rfl) ?_
      refine wpS_this [0] rfl (by kernel_rfl) (by simp only [pickL, nthL, List.cons_append, List.nil_append]; rfl) ?_
      repeat (go_big_quiet_step (fail))
      refine wpQuiet_nil ?_
      refine wpS_doesU1 (i := 1) (d := some 63) (rem := [_, _, _, _]) rfl (by rfl) rfl Try.call9 (vopen_d dl (newL 100) (LgOk.new 100)) rfl HM95.out [0] rfl covS_nil (fun _ => rfl) rfl ?_
      rintro u98 W97 hm96 -
      obtain ⟨dv, rfl, hm96q⟩ := Mem.vtN hm96
      clear hm96
      have HM99 := Lib.hid hm96q
      clear hm96q
      simp only [Act.put, List.setIfInBounds_toArray, List.set_cons_succ, List.set_cons_zero]
      refine wpS_this [2] rfl (by kernel_rfl) (by simp only [pickL, nthL, List.cons_append, List.nil_append]; rfl) ?_
      repeat (go_big_quiet_step (fail))
      refine wpQuiet_nil ?_
      refine wpS_nil ?_
      refine then_normal ?_
      refine wp_seq ?_
      obtain rfl : i = l.length := by have := hge.out; omega
      have hpos : 0 < hs.length := by rw [hhl.out]; omega
      have hN21 : hs.length ≤ 21 := by rw [hhl.out]; omega
      obtain ⟨tN, htN'⟩ : ∃ t : Nat, IntKind.u64.wrap turn = (t : Int) := ⟨(IntKind.u64.wrap turn).toNat, by rw [IntKind.wrap_u64]; omega⟩
      obtain ⟨k, hk'⟩ : ∃ k, tN % hs.length = k := ⟨_, rfl⟩
      have hkN : k < hs.length := by rw [← hk']; exact Nat.mod_lt _ hpos
      have htN := Lib.hid htN'
      clear htN'
      have hk := Lib.hid hk'
      clear hk'
      refine wp_region_N [(0, 1), (1, 1), (2, 1), (3, 1), (4, 1), (5, 1), (6, 1), (7, 1)] (by kernel_rfl) ?_
      refine wpS_this [0, 1, 2, 3, 4] rfl (by kernel_rfl) (by simp only [pickL, nthL, List.cons_append, List.nil_append]; rfl) ?_
      repeat (go_big_quiet_step (fail))
      refine wpQuiet_nil ?_
      refine wpS_read (i := 5) (d := some 69) rfl (by rfl) (run_remK (m := tN) (n := hs.length) hpos rfl htN.out rfl rfl rfl) rfl ?_
      simp only [Act.put, List.setIfInBounds_toArray, List.set_cons_succ, List.set_cons_zero]
      rw [hk.out]
      refine wpS_this [6, 7] rfl (by kernel_rfl) (by simp only [pickL, nthL, List.cons_append, List.nil_append]; rfl) ?_
      repeat (go_big_quiet_step (fail))
      refine wpQuiet_nil ?_
      refine wpS_nil ?_
      refine then_normal ?_
      refine wp_seq ?_
      refine wp_seq ?_
      refine wp_region_N [(0, 1), (1, 1), (2, 1)] (by kernel_rfl) ?_
      refine wpS_this [0, 1, 2] rfl (by kernel_rfl) (by simp only [pickL, nthL, List.cons_append, List.nil_append]; rfl) ?_
      repeat (go_big_quiet_step (fail))
      refine wpQuiet_nil ?_
      refine wpS_nil ?_
      refine then_normal ?_
      refine wp_block ?_
      refine wp_loop_F [4, 15, 73, 74, 75, 76, 77, 78, 79, 80, 81, 82, 83, 84, 85, 86, 87, 88] (fun n us W' => ∃ (i m : Nat) (X : Vl2), n = hs.length - i ∧ us 73 = .int .i64 (i : Int) ∧ i ≤ hs.length ∧ Mg X bs i m ∧ (∀ t, t < i → (t + k) % hs.length ≤ m) ∧ Mem [boxT b6 (.cells (bgC b.k ((.slice p b.v.length c))).toArray 43 (0, 0)), rowT elemB (.slice pa hs.length ca) hs, listT rs, R, vtT dv dl X.1, lgT dl X.2] H w W') (n0 := hs.length) ?_ ?_
      · exact ⟨0, 0, _, rfl, rfl, Nat.zero_le _, Mg.start hCh.out, (fun t h => absurd h (Nat.not_lt_zero t)), (Mem.only (M := [_, _, _, _, _, _]) HM99.out [2, 2, 2, 2, 0, 0] rfl)⟩
      rintro n us W' ⟨q, m, X, rfl, e73, hq, hMg', hrot', hm2⟩
      simp only [putAll, List.map_cons, List.map_nil, Act.put, List.setIfInBounds_toArray, List.set_cons_succ, List.set_cons_zero]
      rw [e73]
      clear e73
      have hMg := Lib.hid hMg'
      clear hMg'
      have hrot := Lib.hid hrot'
      clear hrot'
      have HM100 := Lib.hid hm2
      clear hm2
      refine wp_seq ?_
      refine wp_region_N [(0, 1)] (by kernel_rfl) ?_
      refine wpS_this [0] rfl (by kernel_rfl) (by simp only [pickL, nthL, List.cons_append, List.nil_append]; rfl) ?_
      repeat (go_big_quiet_step (fail))
      refine wpQuiet_nil ?_
      refine wpS_nil ?_
      refine then_normal ?_
      refine wp_seq ?_
      refine wp_cond_split rfl (fun h101 => ?_) (fun h101 => ?_)
      · have hq1 : q + 1 ≤ hs.length := by have : (q : Int) < ((hs.length : Nat) : Int) := (by simpa using h101); omega
        clear h101
        refine wp_skip ?_
        refine then_normal ?_
        refine wp_seq ?_
        refine wp_block ?_
        refine wp_seq ?_
        refine wp_region_N [(0, 1), (1, 1)] (by kernel_rfl) ?_
        refine wpS_this [0, 1] rfl (by kernel_rfl) (by simp only [pickL, nthL, List.cons_append, List.nil_append]; rfl) ?_
        repeat (go_big_quiet_step (fail))
        refine wpQuiet_nil ?_
        refine wpS_nil ?_
        refine then_normal ?_
        refine wp_seq ?_
        obtain ⟨j, hj'⟩ : ∃ j, (q + k) % hs.length = j := ⟨_, rfl⟩
        have hjN : j < hs.length := by rw [← hj']; exact Nat.mod_lt _ hpos
        have hj := Lib.hid hj'
        clear hj'
        obtain ⟨px, cx, x, hhx', hxj', hrx'⟩ := hBs.out.at (j := j) (by omega)
        have hlx := Lib.hid (hCh.out.may x (List.mem_of_getElem? hxj')).len
        obtain ⟨Y, hmg', hMg2', -⟩ := hMg.out.merge hCh.out (by omega) hxj'
        have hhx := Lib.hid hhx'
        clear hhx'
        have hxj := Lib.hid hxj'
        clear hxj'
        have hrx := Lib.hid hrx'
        clear hrx'
        have hmg := Lib.hid hmg'
        clear hmg'
        have hMg2 := Lib.hid hMg2'
        clear hMg2'
        refine wp_region_N [(0, 1), (1, 1), (2, 1), (3, 1), (4, 1), (5, 1), (6, 1), (7, 1), (8, 1), (9, 1), (10, 3), (11, 1)] (by kernel_rfl) ?_
        refine wpS_this [0, 1, 2, 3, 4, 5, 6] rfl (by kernel_rfl) (by simp only [pickL, nthL, List.cons_append, List.nil_append]; rfl) ?_
        repeat (go_big_quiet_step (fail))
        refine wpQuiet_nil ?_
        refine wpS_read (i := 7) (d := some 83) rfl (by rfl) (run_remK (m := q + k) (n := hs.length) hpos rfl (by omega) rfl rfl rfl) rfl ?_
        simp only [Act.put, List.setIfInBounds_toArray, List.set_cons_succ, List.set_cons_zero]
        rw [hj.out]
        refine wpS_index (E := elemB) (i := 8) (d := some 84) rfl (by rfl) rfl rfl rfl (HM100.out.row 1 rfl vRow) (hhx.out) rfl ?_
        intro eb102 eo103 hc104
        simp only [Act.put, List.setIfInBounds_toArray, List.set_cons_succ, List.set_cons_zero]
        refine wpS_loadA (i := 9) (d := some 85) (cells := bgC x.k (.slice px x.v.length cx)) rfl (by rfl) rfl rfl hc104 Try.underlying43 rfl (by kernel_rfl) rfl ?_
        simp only [Act.put, List.setIfInBounds_toArray, List.set_cons_succ, List.set_cons_zero]
        refine wpS_does3 (i := 10) (d := some 86) (rem := [_, _, _]) (out := [_, _, _, _, _, _]) rfl (by rfl) rfl Try.call15 (vmerge_e hMg.out.kept hrx.out (Nat.le_trans hlx.out (by decide)) hmg.out) rfl rfl rfl HM100.out [4, 4, 2] rfl covS_nil rfl rfl ?_
        rintro W106 hm105 -
        have HM107 := Lib.hid hm105
        clear hm105
        simp only [Act.put, List.setIfInBounds_toArray, List.set_cons_succ, List.set_cons_zero]
        refine wpS_this [11] rfl (by kernel_rfl) (by simp only [pickL, nthL, List.cons_append, List.nil_append]; rfl) ?_
        repeat (go_big_quiet_step (fail))
        refine wpQuiet_nil ?_
        refine wpS_nil ?_
        refine then_normal ?_
        refine wp_cond_false rfl ?_
        refine wp_skip ?_
        refine block_normal ?_
        refine then_normal ?_
        refine wp_region_N [(0, 1), (1, 1)] (by kernel_rfl) ?_
        refine wpS_this [0, 1] rfl (by kernel_rfl) (by simp only [pickL, nthL, List.cons_append, List.nil_append]; rfl) ?_
        repeat (go_big_quiet_step (fail))
        refine wpQuiet_nil ?_
        refine wpS_nil ?_
        refine then_normal ?_
        refine ⟨by kernel_rfl, ?_⟩
        refine ⟨hs.length - (q + 1), by omega, q + 1, max m j, Y, rfl, rfl, hq1, hMg2.out, fun t ht => ?_, (Mem.only (M := [_, _, _, _, _, _]) HM107.out [3, 3, 2, 2, 0, 0] rfl)⟩
        rcases Nat.lt_or_eq_of_le (Nat.le_of_lt_succ ht) with h | rfl
        · exact Nat.le_trans (hrot.out t h) (Nat.le_max_left _ _)
        · exact Nat.le_trans (Nat.le_of_eq hj.out) (Nat.le_max_right _ _)
      · have hgq : Hid (hs.length ≤ q) := Lib.hid (by have : ¬ (q : Int) < ((hs.length : Nat) : Int) := (by simpa using h101); omega)
        clear h101
        refine wp_exit ?_
        refine then_exit (then_exit (block_exit ?_))
        refine then_normal ?_
        refine wp_seq ?_
        have hend := Lib.hid (rot_last hkN fun t ht => hrot.out t (Nat.lt_of_lt_of_le ht hgq.out))
        have hbl := Lib.hid hBs.out.len
        refine wp_region_N [(0, 1), (1, 3), (2, 1)] (by kernel_rfl) ?_
        refine wpS_this [0] rfl (by kernel_rfl) (by simp only [pickL, nthL, List.cons_append, List.nil_append]; rfl) ?_
        repeat (go_big_quiet_step (fail))
        refine wpQuiet_nil ?_
        refine wpS_does1 (i := 1) (d := some 90) (rem := [_, _, _, _, _]) (out := [_, _, _, _, _, _]) rfl (by rfl) rfl Try.call22 (llen_d dl X.2 hMg.out.kept.lg) rfl HM100.out [5] rfl covS_nil rfl rfl ?_
        rintro W109 hm108 -
        have HM110 := Lib.hid hm108
        clear hm108
        simp only [Act.put, List.setIfInBounds_toArray, List.set_cons_succ, List.set_cons_zero]
        refine wpS_this [2] rfl (by kernel_rfl) (by simp only [pickL, nthL, List.cons_append, List.nil_append]; rfl) ?_
        repeat (go_big_quiet_step (fail))
        refine wpQuiet_nil ?_
        refine wpS_nil ?_
        refine then_normal ?_
        refine wp_seq ?_
        refine wp_seq ?_
        refine wp_region_N [(0, 1), (1, 1), (2, 1)] (by kernel_rfl) ?_
        refine wpS_this [0, 1, 2] rfl (by kernel_rfl) (by simp only [pickL, nthL, List.cons_append, List.nil_append]; rfl) ?_
        repeat (go_big_quiet_step (fail))
        refine wpQuiet_nil ?_
        refine wpS_nil ?_
        refine then_normal ?_
        refine wp_block ?_
        refine wp_loop_F [4, 18, 93, 94, 95, 96, 97, 98, 99, 100, 101, 102, 103, 104, 105, 106, 107] (fun n ts W' => ∃ z : Nat, n = hs.length - z ∧ ts 93 = .int .i64 (z : Int) ∧ z ≤ hs.length ∧ Mem [boxT b6 (.cells (bgC b.k ((.slice p b.v.length c))).toArray 43 (0, 0)), rowT elemB (.slice pa hs.length ca) hs, listT rs, R, vtT dv dl X.1, lgT dl X.2] H w W') (n0 := hs.length) ?_ ?_
        · exact ⟨0, rfl, rfl, Nat.zero_le _, (Mem.only (M := [_, _, _, _, _, _]) HM110.out [1, 1, 1, 1, 1, 0] rfl)⟩
        rintro n ts W' ⟨z, rfl, e93, hz, hm3⟩
        simp only [putAll, List.map_cons, List.map_nil, Act.put, List.setIfInBounds_toArray, List.set_cons_succ, List.set_cons_zero]
        rw [e93]
        clear e93
        have HM111 := Lib.hid hm3
        clear hm3
        refine wp_seq ?_
        refine wp_region_N [(0, 1)] (by kernel_rfl) ?_
        refine wpS_this [0] rfl (by kernel_rfl) (by simp only [pickL, nthL, List.cons_append, List.nil_append]; rfl) ?_
        repeat (go_big_quiet_step (fail))
        refine wpQuiet_nil ?_
        refine wpS_nil ?_
        refine then_normal ?_
        refine wp_seq ?_
        refine wp_cond_split rfl (fun h112 => ?_) (fun h112 => ?_)
        · have hz1 : z + 1 ≤ hs.length := by have : (z : Int) < ((hs.length : Nat) : Int) := (by simpa using h112); omega
          clear h112
          refine wp_skip ?_
          refine then_normal ?_
          refine wp_seq ?_
          refine wp_block ?_
          refine wp_seq ?_
          obtain ⟨px, cx, x, hhx', hxj', hrx'⟩ := hBs.out.at (j := z) (by omega)
          have hlx := Lib.hid (hCh.out.may x (List.mem_of_getElem? hxj')).len
          have hmg' := hMg.out.again hCh.out (by omega) (by rw [← hbl.out]; exact hend.out) hxj'
          have g30 : ((X.2.l.length : Int) != (X.2.l.length : Int)) = false := bne_self_eq_false _
          have g30n : (X.2.l.length != X.2.l.length) = false := bne_self_eq_false _
          have hhx := Lib.hid hhx'
          clear hhx'
          have hxj := Lib.hid hxj'
          clear hxj'
          have hrx := Lib.hid hrx'
          clear hrx'
          have hmg := Lib.hid hmg'
          clear hmg'
          refine wp_region_N [(0, 1), (1, 1), (2, 3), (3, 3)] (by kernel_rfl) ?_
          refine wpS_index (E := elemB) (i := 0) (d := some 95) rfl (by rfl) rfl rfl rfl (HM111.out.row 1 rfl vRow) (hhx.out) rfl ?_
          intro eb113 eo114 hc115
          simp only [Act.put, List.setIfInBounds_toArray, List.set_cons_succ, List.set_cons_zero]
          refine wpS_loadA (i := 1) (d := some 96) (cells := bgC x.k (.slice px x.v.length cx)) rfl (by rfl) rfl rfl hc115 Try.underlying43 rfl (by kernel_rfl) rfl ?_
          simp only [Act.put, List.setIfInBounds_toArray, List.set_cons_succ, List.set_cons_zero]
          refine wpS_alloc (i := 2) (dd := 18) (z := bgV noB.k (.slice none 0 0)) (cs := (bgC noB.k (.slice none 0 0)).toArray) rfl (by rfl) rfl (by kernel_rfl) rfl HM111.out covS_nil rfl ?_
          rintro b118 W117 hm116 -
          have HM119 := Lib.hid hm116
          clear hm116
          simp only [Act.put, List.setIfInBounds_toArray, List.set_cons_succ, List.set_cons_zero]
          refine wpS_storeA (i := 3) (L2 := [_, _, _, _, _, _]) (cs' := bgC (x.k) (.slice px x.v.length cx)) rfl (by rfl) rfl rfl rfl (by kernel_rfl) (bgC_one _ _ _) HM119.out 0 rfl rfl (by kernel_rfl) (by kernel_rfl) covS_nil rfl ?_
          rintro W121 hm120 -
          have HM122 := Lib.hid hm120
          clear hm120
          refine wpS_nil ?_
          refine then_normal ?_
          refine wp_seq ?_
          refine wp_region_N [(0, 1), (1, 1), (2, 3), (3, 1), (4, 1), (5, 1), (6, 3), (7, 1), (8, 1), (9, 1)] (by kernel_rfl) ?_
          refine wpS_this [0] rfl (by kernel_rfl) (by simp only [pickL, nthL, List.cons_append, List.nil_append]; rfl) ?_
          repeat (go_big_quiet_step (fail))
          refine wpQuiet_nil ?_
          refine wpS_loadA (i := 1) (d := some 98) (cells := bgC (x.k) (.slice px x.v.length cx)) rfl (by rfl) rfl rfl (HM122.out.part 0 rfl (bgC_all)) Try.underlying43 rfl (by kernel_rfl) rfl ?_
          simp only [Act.put, List.setIfInBounds_toArray, List.set_cons_succ, List.set_cons_zero]
          refine wpS_does3 (i := 2) (d := some 99) (rem := [_, _, _, _]) (out := [_, _, _, _, _, _, _]) rfl (by rfl) rfl Try.call15 (vmerge_e hMg.out.kept hrx.out (Nat.le_trans hlx.out (by decide)) hmg.out) rfl rfl rfl HM122.out [5, 5, 3] rfl covS_nil rfl rfl ?_
          rintro W124 hm123 -
          have HM125 := Lib.hid hm123
          clear hm123
          simp only [Act.put, List.setIfInBounds_toArray, List.set_cons_succ, List.set_cons_zero]
          refine wpS_this [3, 4, 5] rfl (by kernel_rfl) (by simp only [pickL, nthL, List.cons_append, List.nil_append]; rfl) ?_
          repeat (go_big_quiet_step (fail))
          refine wpQuiet_nil ?_
          refine wpS_does1 (i := 6) (d := some 103) (rem := [_, _, _, _, _, _]) (out := [_, _, _, _, _, _, _]) rfl (by rfl) rfl Try.call22 (llen_d dl X.2 hMg.out.kept.lg) rfl HM125.out [1] rfl covS_nil rfl rfl ?_
          rintro W127 hm126 -
          have HM128 := Lib.hid hm126
          clear hm126
          simp only [Act.put, List.setIfInBounds_toArray, List.set_cons_succ, List.set_cons_zero]
          refine wpS_this [7, 8, 9] rfl (by kernel_rfl) (by simp only [pickL, nthL, List.cons_append, List.nil_append]; rfl) ?_
          repeat (go_big_quiet_step (fail))
          refine wpQuiet_nil ?_
          refine wpS_nil ?_
          refine then_normal ?_
          refine wp_cond_false rfl ?_
          refine wp_skip ?_
          refine block_normal ?_
          refine then_normal ?_
          refine wp_region_N [(0, 1), (1, 1)] (by kernel_rfl) ?_
          refine wpS_this [0, 1] rfl (by kernel_rfl) (by simp only [pickL, nthL, List.cons_append, List.nil_append]; rfl) ?_
          repeat (go_big_quiet_step (fail))
          refine wpQuiet_nil ?_
          refine wpS_nil ?_
          refine then_normal ?_
          refine ⟨by kernel_rfl, ?_⟩
          exact ⟨hs.length - (z + 1), by omega, z + 1, rfl, rfl, hz1, (Mem.only (M := [_, _, _, _, _, _]) HM128.out [4, 4, 2, 3, 1, 0] rfl)⟩
        · have hgz : Hid (hs.length ≤ z) := Lib.hid (by have : ¬ (z : Int) < ((hs.length : Nat) : Int) := (by simpa using h112); omega)
          clear h112
          refine wp_exit ?_
          refine then_exit (then_exit (block_exit ?_))
          refine then_normal ?_
          refine wp_seq ?_
          have hsm' := hMg.out.done hCh.out (by rw [← hbl.out]; exact hend.out)
          have hlx := Lib.hid (bagV_may hMg.out.kept.ok kM).len
          obtain ⟨bx, hbx'⟩ : ∃ z, bagV X.1 kM = z := ⟨_, rfl⟩
          rw [hbx'] at hsm' hlx
          have hnk := Lib.hid (merge_nokey X b)
          have hsm := Lib.hid hsm'
          clear hsm'
          have hbx := Lib.hid hbx'
          clear hbx'
          refine wp_region_M (fun k => k ∈ ([b6] : List Nat)) [(0, 1), (2, 2), (1, 3), (3, 3), (4, 1), (5, 1), (6, 3), (7, 1), (8, 1), (9, 1), (10, 1), (11, 1), (12, 3), (13, 1), (14, 1), (15, 1), (16, 3), (17, 1), (18, 1)] (by kernel_rfl) (by kernel_rfl) HM111.out ?_
          intro W129 hm130
          have HM131 := Lib.hid hm130
          clear hm130
          refine wpS_this [0] rfl (by kernel_rfl) (by simp only [pickL, nthL, List.cons_append, List.nil_append]; rfl) ?_
          repeat (go_big_quiet_step (fail))
          refine wpQuiet_nil ?_
          refine wpS_loadA2 (i := 2) (d := some 110) (cells := bgC (b.k) ((.slice p b.v.length c))) rfl (by rfl) rfl rfl (by simp) (HM131.out.part 0 rfl (bgC_all)) Try.underlying43 rfl (by kernel_rfl) rfl ?_
          simp only [Act.put, List.setIfInBounds_toArray, List.set_cons_succ, List.set_cons_zero]
          refine wpS_doesU2 (i := 1) (d := some 109) (rem := [_, _, _, _, _]) rfl (by rfl) rfl Try.call16 (vbag_e hMg.out.kept.ok hbx.out) rfl rfl HM131.out [4] rfl (covS_box 0 rfl covS_nil) (fun _ => rfl) rfl ?_
          rintro u135 W133 hm132 hg134
          obtain ⟨pb, cb, rfl, hm132q⟩ := Mem.bag rfl hm132
          clear hm132
          have HM136 := Lib.hid hm132q
          clear hm132q
          simp only [Act.put, List.setIfInBounds_toArray, List.set_cons_succ, List.set_cons_zero]
          refine wpS_does2 (i := 3) (d := some 111) (rem := [_, _, _, _, _]) (out := [_, _, _, _, _, _, _]) rfl (by rfl) rfl Try.call18 (Does.ofList (bsame_d (listT [_, _]) _ bx (vL 0 rfl rowT_reads) (Nat.le_trans hlx.out (by decide)) _ b (vL 1 rfl hrb.out) (Nat.le_trans hlb.out (by decide)))) rfl rfl HM136.out [0, 3] rfl (covS_box 1 rfl covS_nil) rfl rfl ?_
          rintro W138 hm137 hg139
          rw [hsm.out]
          have HM140 := Lib.hid hm137
          clear hm137
          simp only [Act.put, List.setIfInBounds_toArray, List.set_cons_succ, List.set_cons_zero]
          refine wpS_this [4, 5] rfl (by kernel_rfl) (by simp only [pickL, nthL, List.cons_append, List.nil_append]; rfl) ?_
          repeat (go_big_quiet_step (fail))
          refine wpQuiet_nil ?_
          refine wpS_does1 (i := 6) (d := some 114) (rem := [_, _, _, _, _, _]) (out := [_, _, _, _, _, _, _]) rfl (by rfl) rfl Try.call14 (vdots_d dv dl X.1 hMg.out.kept.ok) rfl HM140.out [2] rfl (covS_box 2 rfl covS_nil) rfl rfl ?_
          rintro W142 hm141 hg143
          rw [hMg.out.dots]
          have HM144 := Lib.hid hm141
          clear hm141
          simp only [Act.put, List.setIfInBounds_toArray, List.set_cons_succ, List.set_cons_zero]
          refine wpS_this [7, 8, 9, 10] rfl (by kernel_rfl) (by simp only [pickL, nthL, List.cons_append, List.nil_append]; rfl) ?_
          repeat (go_big_quiet_step (fail))
          refine wpQuiet_nil ?_
          refine wpS_loadA (i := 11) (d := some 119) (cells := bgC (b.k) ((.slice p b.v.length c))) rfl (by rfl) rfl rfl (HM144.out.part 3 rfl (bgC_all)) Try.underlying43 rfl (by kernel_rfl) rfl ?_
          simp only [Act.put, List.setIfInBounds_toArray, List.set_cons_succ, List.set_cons_zero]
          refine wpS_does3 (i := 12) (d := some 120) (rem := [_, _, _, _]) (out := [_, _, _, _, _, _, _]) rfl (by rfl) rfl Try.call15 (vmerge_e hMg.out.kept hrb.out (Nat.le_trans hlb.out (by decide)) hnk.out) rfl rfl rfl HM144.out [0, 5, 1] rfl (covS_box 1 rfl covS_nil) rfl rfl ?_
          rintro W146 hm145 hg147
          have HM148 := Lib.hid hm145
          clear hm145
          simp only [Act.put, List.setIfInBounds_toArray, List.set_cons_succ, List.set_cons_zero]
          refine wpS_this [13, 14, 15] rfl (by kernel_rfl) (by simp only [pickL, nthL, List.cons_append, List.nil_append]; rfl) ?_
          repeat (go_big_quiet_step (fail))
          refine wpQuiet_nil ?_
          refine wpS_does0 (i := 16) (d := some 124) (rem := [_, _, _, _, _, _, _]) (out := [_, _, _, _, _, _, _]) rfl (by rfl) rfl Try.call7 (vawake_d)  HM148.out [] rfl (covS_box 4 rfl covS_nil) rfl rfl ?_
          rintro W150 hm149 hg151
          have HM152 := Lib.hid hm149
          clear hm149
          simp only [Act.put, List.setIfInBounds_toArray, List.set_cons_succ, List.set_cons_zero]
          refine wpS_this [17, 18] rfl (by kernel_rfl) (by simp only [pickL, nthL, List.cons_append, List.nil_append]; rfl) ?_
          repeat (go_big_quiet_step (fail))
          refine wpQuiet_nil ?_
          refine wpS_nil ?_
          refine then_normal ?_
          refine wp_ret ?_
          refine bodyPost_ret (results_tmp rfl _ _ _) rfl ?_
          exact does_ret (Mem.only (M := [_]) HM152.out [6] rfl) rfl rfl

end Go.Proofs.Ythaabnlhhfnalaa
