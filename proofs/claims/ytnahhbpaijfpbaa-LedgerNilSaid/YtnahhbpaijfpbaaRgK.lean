/- RgK: RgB, RgD, RgK. -/
import Derived.Test.YtnahhbpaijfpbaaRgV
import Derived.Test.YtnahhbpaijfpbaaRgC
namespace Go.Proofs.Ytnahhbpaijfpbaa
section
open Go Go.RowKit Go.BigFrame
theorem rnode_any (n : Int) (w : World) : Gives Try.prog 70 #[.int .i64 n] w (.bool (nodeE n)) := by
  unfold Gives
  by_cases q0 : 0 ≤ n <;> by_cases q1 : n < 8
  all_goals try (exfalso; omega)
  all_goals first | (have H : Hid (nodeE n = true) := Lib.hid (by simp [nodeE]; omega)) | (have H : Hid (nodeE n = false) := Lib.hid (by simp [nodeE]; omega))
  all_goals
    go_enter Try.func70, Try.ntmps70
    go_wp2
    all_goals go_ret
    all_goals exact ⟨by rw [H.out]; rfl, Later.ex (by repeat (first | exact ext_refl _ | refine ext_alloc ?_ _ | refine ext_later ?_ _ | refine ext_drew ?_ | refine ext_drewN ?_ _))⟩
theorem rnode_d (n : Int) : Does Try.prog 70 #[.int .i64 n] [] (.bool (nodeE n)) [] := Does.of_any fun w => rnode_any n w
set_option maxHeartbeats 4000000 in
set_option maxRecDepth 100000 in
theorem rcmp_d (x y : Int) : Does Try.prog 72 #[.int .i64 x, .int .i64 y] [] (.int .i64 (cmpI x y)) [] := by
  intro w H hp
  have HM0 := Lib.hid (mem_refl hp)
  clear hp
  go_enter Try.func72, Try.ntmps72
  refine wp_seq ?_
  refine wp_region_N [(0, 1)] (by kernel_rfl) ?_
  refine wpS_this [0] rfl (by kernel_rfl) (by simp only [pickL, nthL, List.cons_append, List.nil_append]; rfl) ?_
  repeat (go_big_quiet_step (fail))
  refine wpQuiet_nil ?_
  refine wpS_nil ?_
  refine then_normal ?_
  refine wp_seq ?_
  refine wp_block ?_
  refine wp_seq ?_
  rcases cmpI_spec x y with ⟨h, hc⟩ | ⟨h, hc⟩ | ⟨h, hc⟩
  · have g1 : decide (x < y) = true := decide_eq_true h
    have hc := Lib.hid hc
    refine wp_region_N [(0, 1), (1, 1), (2, 1), (3, 1)] (by kernel_rfl) ?_
    refine wpS_this [0, 1, 2, 3] rfl (by kernel_rfl) (by simp only [pickL, nthL, List.cons_append, List.nil_append]; rfl) ?_
    repeat (go_big_quiet_step (fail))
    refine wpQuiet_nil ?_
    refine wpS_nil ?_
    refine then_normal ?_
    refine wp_cond_true rfl ?_
    refine wp_seq ?_
    refine wp_region_N [(0, 1)] (by kernel_rfl) ?_
    refine wpS_this [0] rfl (by kernel_rfl) (by simp only [pickL, nthL, List.cons_append, List.nil_append]; rfl) ?_
    repeat (go_big_quiet_step (fail))
    refine wpQuiet_nil ?_
    refine wpS_nil ?_
    refine then_normal ?_
    refine wp_ret ?_
    refine block_ret (then_ret ?_)
    refine bodyPost_ret (results_tmp rfl _ _ _) rfl ?_
    exact does_ret (Mem.only (M := []) HM0.out [] rfl) (congrArg (Value.int .i64) hc.out.symm) rfl
  · have g1 : decide (x < y) = false := decide_eq_false (by omega)
    have g2 : decide (y < x) = false := decide_eq_false (by omega)
    have hc := Lib.hid hc
    refine wp_region_N [(0, 1), (1, 1), (2, 1), (3, 1)] (by kernel_rfl) ?_
    refine wpS_this [0, 1, 2, 3] rfl (by kernel_rfl) (by simp only [pickL, nthL, List.cons_append, List.nil_append]; rfl) ?_
    repeat (go_big_quiet_step (fail))
    refine wpQuiet_nil ?_
    refine wpS_nil ?_
    refine then_normal ?_
    refine wp_cond_false rfl ?_
    refine wp_seq ?_
    refine wp_region_N [(0, 1), (1, 1), (2, 1), (3, 1)] (by kernel_rfl) ?_
    refine wpS_this [0, 1, 2, 3] rfl (by kernel_rfl) (by simp only [pickL, nthL, List.cons_append, List.nil_append]; rfl) ?_
    repeat (go_big_quiet_step (fail))
    refine wpQuiet_nil ?_
    refine wpS_nil ?_
    refine then_normal ?_
    refine wp_cond_false rfl ?_
    refine wp_skip ?_
    refine block_normal ?_
    refine then_normal ?_
    refine wp_seq ?_
    refine wp_region_N [(0, 1)] (by kernel_rfl) ?_
    refine wpS_this [0] rfl (by kernel_rfl) (by simp only [pickL, nthL, List.cons_append, List.nil_append]; rfl) ?_
    repeat (go_big_quiet_step (fail))
    refine wpQuiet_nil ?_
    refine wpS_nil ?_
    refine then_normal ?_
    refine wp_ret ?_
    refine bodyPost_ret (results_tmp rfl _ _ _) rfl ?_
    exact does_ret (Mem.only (M := []) HM0.out [] rfl) (congrArg (Value.int .i64) hc.out.symm) rfl
  · have g1 : decide (x < y) = false := decide_eq_false (by omega)
    have g2 : decide (y < x) = true := decide_eq_true (by omega)
    have hc := Lib.hid hc
    refine wp_region_N [(0, 1), (1, 1), (2, 1), (3, 1)] (by kernel_rfl) ?_
    refine wpS_this [0, 1, 2, 3] rfl (by kernel_rfl) (by simp only [pickL, nthL, List.cons_append, List.nil_append]; rfl) ?_
    repeat (go_big_quiet_step (fail))
    refine wpQuiet_nil ?_
    refine wpS_nil ?_
    refine then_normal ?_
    refine wp_cond_false rfl ?_
    refine wp_seq ?_
    refine wp_region_N [(0, 1), (1, 1), (2, 1), (3, 1)] (by kernel_rfl) ?_
    refine wpS_this [0, 1, 2, 3] rfl (by kernel_rfl) (by simp only [pickL, nthL, List.cons_append, List.nil_append]; rfl) ?_
    repeat (go_big_quiet_step (fail))
    refine wpQuiet_nil ?_
    refine wpS_nil ?_
    refine then_normal ?_
    refine wp_cond_true rfl ?_
    refine wp_seq ?_
    refine wp_region_N [(0, 1)] (by kernel_rfl) ?_
    refine wpS_this [0] rfl (by kernel_rfl) (by simp only [pickL, nthL, List.cons_append, List.nil_append]; rfl) ?_
    repeat (go_big_quiet_step (fail))
    refine wpQuiet_nil ?_
    refine wpS_nil ?_
    refine then_normal ?_
    refine wp_ret ?_
    refine block_ret (then_ret ?_)
    refine bodyPost_ret (results_tmp rfl _ _ _) rfl ?_
    exact does_ret (Mem.only (M := []) HM0.out [] rfl) (congrArg (Value.int .i64) hc.out.symm) rfl
set_option maxHeartbeats 4000000 in
set_option maxRecDepth 100000 in
theorem rtgt_d (R : At) (vt : Value) (st : List Int) (ht : Reads elemI R vt st) (lt : st.length ≤ 1000) : Does Try.prog 71 #[vt] [R] (.bool (tgtL st)) [R] := by
  intro w H hp
  have HM0 := Lib.hid (mem_refl hp)
  clear hp
  obtain ⟨pt, ct, rfl⟩ := row_form (Mem.src HM0.out 0 rfl ht)
  go_enter Try.func71, Try.ntmps71
  refine wp_seq ?_
  refine wp_region_N [(0, 1)] (by kernel_rfl) ?_
  refine wpS_this [0] rfl (by kernel_rfl) (by simp only [pickL, nthL, List.cons_append, List.nil_append]; rfl) ?_
  repeat (go_big_quiet_step (fail))
  refine wpQuiet_nil ?_
  refine wpS_nil ?_
  refine then_normal ?_
  refine wp_seq ?_
  refine wp_seq ?_
  refine wp_region_N [(0, 1), (1, 1), (2, 1)] (by kernel_rfl) ?_
  refine wpS_this [0, 1, 2] rfl (by kernel_rfl) (by simp only [pickL, nthL, List.cons_append, List.nil_append]; rfl) ?_
  repeat (go_big_quiet_step (fail))
  refine wpQuiet_nil ?_
  refine wpS_nil ?_
  refine then_normal ?_
  refine wp_block ?_
  refine wp_loop_F [2, 4, 7, 8, 9, 10, 11, 12, 13, 14] (fun n vs W' => ∃ k : Nat, n = st.length - k ∧ vs 7 = .int .i64 (k : Int) ∧ k ≤ st.length ∧ (st.take k).all nodeE = true ∧ Mem [R] H w W') (n0 := st.length) ?_ ?_
  · exact ⟨0, rfl, rfl, Nat.zero_le _, rfl, (Mem.only (M := [_]) HM0.out [0] rfl)⟩
  rintro n vs W' ⟨k, rfl, e7, hk, hf, hm⟩
  simp only [putAll, List.map_cons, List.map_nil, Act.put, List.setIfInBounds_toArray, List.set_cons_succ, List.set_cons_zero]
  rw [e7]
  clear e7
  have hf := Lib.hid hf
  have HM1 := Lib.hid hm
  clear hm
  refine wp_seq ?_
  refine wp_region_N [(0, 1)] (by kernel_rfl) ?_
  refine wpS_this [0] rfl (by kernel_rfl) (by simp only [pickL, nthL, List.cons_append, List.nil_append]; rfl) ?_
  repeat (go_big_quiet_step (fail))
  refine wpQuiet_nil ?_
  refine wpS_nil ?_
  refine then_normal ?_
  refine wp_seq ?_
  refine wp_cond_split rfl (fun h2 => ?_) (fun h2 => ?_)
  · have hk1 : k + 1 ≤ st.length := by have : (k : Int) < ((st.length : Nat) : Int) := (by simpa using h2); omega
    clear h2
    obtain ⟨x, hx'⟩ : ∃ y, st[k]? = some y := ⟨_, List.getElem?_eq_getElem (hk1)⟩
    have hx := Lib.hid hx'
    clear hx'
    refine wp_skip ?_
    refine then_normal ?_
    refine wp_seq ?_
    refine wp_block ?_
    refine wp_seq ?_
    refine wp_region_N [(0, 1), (1, 1), (2, 1)] (by kernel_rfl) ?_
    refine wpS_index (E := elemI) (i := 0) (d := some 9) rfl (by rfl) rfl rfl rfl (HM1.out.row 0 rfl ht.row) (hx.out) rfl ?_
    intro eb3 eo4 hc5
    simp only [Act.put, List.setIfInBounds_toArray, List.set_cons_succ, List.set_cons_zero]
    refine wpS_load1 (i := 1) (d := some 10) (u := .int .i64 x) rfl (by rfl) rfl rfl (hc5 0 _ rfl) Try.underlying3 rfl rfl ?_
    simp only [Act.put, List.setIfInBounds_toArray, List.set_cons_succ, List.set_cons_zero]
    refine wpS_this [2] rfl (by kernel_rfl) (by simp only [pickL, nthL, List.cons_append, List.nil_append]; rfl) ?_
    repeat (go_big_quiet_step (fail))
    refine wpQuiet_nil ?_
    refine wpS_nil ?_
    refine then_normal ?_
    refine wp_seq ?_
    rcases Bool.eq_false_or_eq_true (nodeE x) with hn | hn
    · replace hn := Lib.hid hn
      refine wp_region_N [(0, 1), (1, 3), (2, 1)] (by kernel_rfl) ?_
      refine wpS_this [0] rfl (by kernel_rfl) (by simp only [pickL, nthL, List.cons_append, List.nil_append]; rfl) ?_
      repeat (go_big_quiet_step (fail))
      refine wpQuiet_nil ?_
      refine wpS_does1 (i := 1) (d := some 12) (rem := [_]) (out := [_]) rfl (by rfl) rfl Try.call70 (rnode_d x) rfl HM1.out [] rfl covS_nil rfl rfl ?_
      rintro W7 hm6 -
      rw [hn.out]
      have HM8 := Lib.hid hm6
      clear hm6
      simp only [Act.put, List.setIfInBounds_toArray, List.set_cons_succ, List.set_cons_zero]
      refine wpS_this [2] rfl (by kernel_rfl) (by simp only [pickL, nthL, List.cons_append, List.nil_append]; rfl) ?_
      repeat (go_big_quiet_step (fail))
      refine wpQuiet_nil ?_
      refine wpS_nil ?_
      refine then_normal ?_
      refine wp_cond_false rfl ?_
      refine wp_skip ?_
      refine block_normal ?_
      refine then_normal ?_
      refine wp_region_N [(0, 1), (1, 1)] (by kernel_rfl) ?_
      refine wpS_this [0, 1] rfl (by kernel_rfl) (by simp only [pickL, nthL, List.cons_append, List.nil_append]; rfl) ?_
      repeat (go_big_quiet_step (fail))
      refine wpQuiet_nil ?_
      refine wpS_nil ?_
      refine then_normal ?_
      refine ⟨by kernel_rfl, ?_⟩
      refine ⟨st.length - (k + 1), by omega, k + 1, rfl, rfl, hk1, ?_, (Mem.only (M := [_]) HM8.out [0] rfl)⟩
      rw [all_step hx.out, hf.out, hn.out]
      rfl
    · replace hn := Lib.hid hn
      refine wp_region_N [(0, 1), (1, 3), (2, 1)] (by kernel_rfl) ?_
      refine wpS_this [0] rfl (by kernel_rfl) (by simp only [pickL, nthL, List.cons_append, List.nil_append]; rfl) ?_
      repeat (go_big_quiet_step (fail))
      refine wpQuiet_nil ?_
      refine wpS_does1 (i := 1) (d := some 12) (rem := [_]) (out := [_]) rfl (by rfl) rfl Try.call70 (rnode_d x) rfl HM1.out [] rfl covS_nil rfl rfl ?_
      rintro W10 hm9 -
      rw [hn.out]
      have HM11 := Lib.hid hm9
      clear hm9
      simp only [Act.put, List.setIfInBounds_toArray, List.set_cons_succ, List.set_cons_zero]
      refine wpS_this [2] rfl (by kernel_rfl) (by simp only [pickL, nthL, List.cons_append, List.nil_append]; rfl) ?_
      repeat (go_big_quiet_step (fail))
      refine wpQuiet_nil ?_
      refine wpS_nil ?_
      refine then_normal ?_
      refine wp_cond_true rfl ?_
      refine wp_seq ?_
      refine wp_region_N [(0, 1)] (by kernel_rfl) ?_
      refine wpS_this [0] rfl (by kernel_rfl) (by simp only [pickL, nthL, List.cons_append, List.nil_append]; rfl) ?_
      repeat (go_big_quiet_step (fail))
      refine wpQuiet_nil ?_
      refine wpS_nil ?_
      refine then_normal ?_
      refine wp_ret ?_
      refine block_ret (then_ret (then_ret (block_ret (then_ret ?_))))
      refine bodyPost_ret (results_tmp rfl _ _ _) rfl ?_
      rw [tgtL_no hx.out hn.out]
      exact does_ret (Mem.only (M := [_]) HM11.out [0] rfl) rfl rfl
  · have hge : Hid (st.length ≤ k) := Lib.hid (by have : ¬ (k : Int) < ((st.length : Nat) : Int) := (by simpa using h2); omega)
    clear h2
    refine wp_exit ?_
    refine then_exit (then_exit (block_exit ?_))
    refine then_normal ?_
    refine wp_seq ?_
    by_cases hl : st.length = 16
    · have g16 : ((st.length : Int) == 16) = true := by simp; omega
      replace hl := Lib.hid hl
      refine wp_region_N [(0, 1), (1, 1), (2, 1), (3, 1)] (by kernel_rfl) ?_
      refine wpS_this [0, 1, 2, 3] rfl (by kernel_rfl) (by simp only [pickL, nthL, List.cons_append, List.nil_append]; rfl) ?_
      repeat (go_big_quiet_step (fail))
      refine wpQuiet_nil ?_
      refine wpS_nil ?_
      refine then_normal ?_
      refine wp_ret ?_
      refine bodyPost_ret (results_tmp rfl _ _ _) rfl ?_
      have hkl : k = st.length := by have := hge.out; omega
      subst hkl
      have hc : tgtL st = true := by
          unfold tgtL
          rw [decide_eq_true hl.out]
          have h1 := hf.out
          rw [List.take_length] at h1
          rw [h1]
          rfl
      rw [hc]
      exact does_ret (Mem.only (M := [_]) HM1.out [0] rfl) rfl rfl
    · have g16 : ((st.length : Int) == 16) = false := by simp; omega
      replace hl := Lib.hid hl
      refine wp_region_N [(0, 1), (1, 1), (2, 1), (3, 1)] (by kernel_rfl) ?_
      refine wpS_this [0, 1, 2, 3] rfl (by kernel_rfl) (by simp only [pickL, nthL, List.cons_append, List.nil_append]; rfl) ?_
      repeat (go_big_quiet_step (fail))
      refine wpQuiet_nil ?_
      refine wpS_nil ?_
      refine then_normal ?_
      refine wp_ret ?_
      refine bodyPost_ret (results_tmp rfl _ _ _) rfl ?_
      have hc : tgtL st = false := by unfold tgtL; rw [decide_eq_false hl.out]; rfl
      rw [hc]
      exact does_ret (Mem.only (M := [_]) HM1.out [0] rfl) rfl rfl
set_option maxHeartbeats 4000000 in
set_option maxRecDepth 100000 in
theorem rmay_d (R : At) (va : Value) (a1 a2 : Int) (sa : List Int) (ha : Reads elemI R va sa) (la : sa.length ≤ 1000) : Does Try.prog 54 #[.agg #[.int .i64 a1, .int .i64 a2, va]] [R] (.bool (mayP (a1, a2, sa))) [R] := by
  intro w H hp
  have HM0 := Lib.hid (mem_refl hp)
  clear hp
  obtain ⟨pa, ca, rfl⟩ := row_form (Mem.src HM0.out 0 rfl ha)
  go_enter Try.func54, Try.ntmps54
  refine wp_seq ?_
  refine wp_region_N [(0, 3), (1, 1)] (by kernel_rfl) ?_
  refine wpS_boxA (i := 0) (dd := 1) rfl (by rfl) rfl rfl HM0.out covS_nil rfl ?_
  rintro b3 W2 hm1 -
  have HM4 := Lib.hid hm1
  clear hm1
  simp only [Act.put, List.setIfInBounds_toArray, List.set_cons_succ, List.set_cons_zero]
  refine wpS_this [1] rfl (by kernel_rfl) (by simp only [pickL, nthL, List.cons_append, List.nil_append]; rfl) ?_
  repeat (go_big_quiet_step (fail))
  refine wpQuiet_nil ?_
  refine wpS_nil ?_
  refine then_normal ?_
  refine wp_seq ?_
  refine wp_seq ?_
  rcases may_ways a1 a2 sa with ⟨h1, h2, h3, hz, hc⟩ | ⟨h1, h2, h3, hz, hc⟩ | ⟨h1, h2, hz, hc⟩ | ⟨h1, h2, hz, hc⟩ | ⟨h1, h2, h3, hz, hc⟩ | ⟨h1, h2, h3, hn, hz, hc⟩ | ⟨h1, h2, h3, hn, hz, hc⟩
  · have g1 : (a1 == 0) = true := beq_iff_eq.2 (by omega)
    have g2 : (a2 == 0) = true := beq_iff_eq.2 (by omega)
    have g3 : ((sa.length : Int) == 0) = true := beq_iff_eq.2 (by omega)
    replace hz := Lib.hid hz
    replace hc := Lib.hid hc
    clear h1 h2
    clear h3
    refine wp_region_N [(0, 1), (1, 1), (2, 1), (3, 1), (4, 1), (5, 1), (6, 1), (7, 1), (8, 1), (9, 1), (10, 1), (11, 1), (12, 1), (13, 1)] (by kernel_rfl) ?_
    have Cb1 := Mem.cell HM4.out 0 rfl
    refine wpS_this [0, 1, 2, 3, 4, 5, 6, 7, 8, 9, 10, 11, 12, 13] rfl (by kernel_rfl) (by simp only [pickL, nthL, List.cons_append, List.nil_append]; rfl) ?_
    repeat (go_big_quiet_step (fail))
    refine wpQuiet_nil ?_
    clear Cb1
    refine wpS_nil ?_
    refine then_normal ?_
    refine wp_cond_true rfl ?_
    refine wp_seq ?_
    refine wp_region_N [(0, 1)] (by kernel_rfl) ?_
    refine wpS_this [0] rfl (by kernel_rfl) (by simp only [pickL, nthL, List.cons_append, List.nil_append]; rfl) ?_
    repeat (go_big_quiet_step (fail))
    refine wpQuiet_nil ?_
    refine wpS_nil ?_
    refine then_normal ?_
    refine wp_ret ?_
    refine then_ret ?_
    refine bodyPost_ret (results_tmp rfl _ _ _) rfl ?_
    rw [hc.out]
    exact does_ret (Mem.only (M := [_]) HM4.out [1] rfl) rfl rfl
  · have g1 : (a1 == 0) = true := beq_iff_eq.2 (by omega)
    have g2 : (a2 == 0) = true := beq_iff_eq.2 (by omega)
    have g3 : ((sa.length : Int) == 0) = false := beq_eq_false_iff_ne.2 (by omega)
    have g4 : decide (1 ≤ a1) = false := decide_eq_false (by omega)
    replace hz := Lib.hid hz
    replace hc := Lib.hid hc
    clear h1 h2
    clear h3
    refine wp_region_N [(0, 1), (1, 1), (2, 1), (3, 1), (4, 1), (5, 1), (6, 1), (7, 1), (8, 1), (9, 1), (10, 1), (11, 1), (12, 1), (13, 1)] (by kernel_rfl) ?_
    have Cb1 := Mem.cell HM4.out 0 rfl
    refine wpS_this [0, 1, 2, 3, 4, 5, 6, 7, 8, 9, 10, 11, 12, 13] rfl (by kernel_rfl) (by simp only [pickL, nthL, List.cons_append, List.nil_append]; rfl) ?_
    repeat (go_big_quiet_step (fail))
    refine wpQuiet_nil ?_
    clear Cb1
    refine wpS_nil ?_
    refine then_normal ?_
    refine wp_cond_false rfl ?_
    refine wp_skip ?_
    refine then_normal ?_
    refine wp_seq ?_
    refine wp_region_N [(0, 1), (1, 1), (2, 1), (3, 1), (4, 1), (5, 1), (6, 1), (7, 1), (8, 1), (9, 1), (10, 1), (11, 3), (12, 1), (13, 1), (14, 1), (15, 1), (16, 3), (17, 1), (18, 1)] (by kernel_rfl) ?_
    have Cb1 := Mem.cell HM4.out 0 rfl
    refine wpS_this [0, 1, 2, 3, 4, 5, 6, 7, 8, 9, 10] rfl (by kernel_rfl) (by simp only [pickL, nthL, List.cons_append, List.nil_append]; rfl) ?_
    repeat (go_big_quiet_step (fail))
    refine wpQuiet_nil ?_
    clear Cb1
    refine wpS_skip (i := 11) (d := some 28) rfl (by rfl) rfl ?_
    simp only [Act.put, List.setIfInBounds_toArray, List.set_cons_succ, List.set_cons_zero]
    have Cb1 := Mem.cell HM4.out 0 rfl
    refine wpS_this [12, 13, 14, 15] rfl (by kernel_rfl) (by simp only [pickL, nthL, List.cons_append, List.nil_append]; rfl) ?_
    repeat (go_big_quiet_step (fail))
    refine wpQuiet_nil ?_
    clear Cb1
    refine wpS_skip (i := 16) (d := some 33) rfl (by rfl) rfl ?_
    simp only [Act.put, List.setIfInBounds_toArray, List.set_cons_succ, List.set_cons_zero]
    refine wpS_this [17, 18] rfl (by kernel_rfl) (by simp only [pickL, nthL, List.cons_append, List.nil_append]; rfl) ?_
    repeat (go_big_quiet_step (fail))
    refine wpQuiet_nil ?_
    refine wpS_nil ?_
    refine then_normal ?_
    refine wp_ret ?_
    refine bodyPost_ret (results_tmp rfl _ _ _) rfl ?_
    rw [hc.out]
    exact does_ret (Mem.only (M := [_]) HM4.out [1] rfl) rfl rfl
  · have g1 : (a1 == 0) = true := beq_iff_eq.2 (by omega)
    have g2 : (a2 == 0) = false := beq_eq_false_iff_ne.2 (by omega)
    have g4 : decide (1 ≤ a1) = false := decide_eq_false (by omega)
    replace hz := Lib.hid hz
    replace hc := Lib.hid hc
    clear h1 h2
    refine wp_region_N [(0, 1), (1, 1), (2, 1), (3, 1), (4, 1), (5, 1), (6, 1), (7, 1), (8, 1), (9, 1), (10, 1), (11, 1), (12, 1), (13, 1)] (by kernel_rfl) ?_
    have Cb1 := Mem.cell HM4.out 0 rfl
    refine wpS_this [0, 1, 2, 3, 4, 5, 6, 7, 8, 9, 10, 11, 12, 13] rfl (by kernel_rfl) (by simp only [pickL, nthL, List.cons_append, List.nil_append]; rfl) ?_
    repeat (go_big_quiet_step (fail))
    refine wpQuiet_nil ?_
    clear Cb1
    refine wpS_nil ?_
    refine then_normal ?_
    refine wp_cond_false rfl ?_
    refine wp_skip ?_
    refine then_normal ?_
    refine wp_seq ?_
    refine wp_region_N [(0, 1), (1, 1), (2, 1), (3, 1), (4, 1), (5, 1), (6, 1), (7, 1), (8, 1), (9, 1), (10, 1), (11, 3), (12, 1), (13, 1), (14, 1), (15, 1), (16, 3), (17, 1), (18, 1)] (by kernel_rfl) ?_
    have Cb1 := Mem.cell HM4.out 0 rfl
    refine wpS_this [0, 1, 2, 3, 4, 5, 6, 7, 8, 9, 10] rfl (by kernel_rfl) (by simp only [pickL, nthL, List.cons_append, List.nil_append]; rfl) ?_
    repeat (go_big_quiet_step (fail))
    refine wpQuiet_nil ?_
    clear Cb1
    refine wpS_skip (i := 11) (d := some 28) rfl (by rfl) rfl ?_
    simp only [Act.put, List.setIfInBounds_toArray, List.set_cons_succ, List.set_cons_zero]
    have Cb1 := Mem.cell HM4.out 0 rfl
    refine wpS_this [12, 13, 14, 15] rfl (by kernel_rfl) (by simp only [pickL, nthL, List.cons_append, List.nil_append]; rfl) ?_
    repeat (go_big_quiet_step (fail))
    refine wpQuiet_nil ?_
    clear Cb1
    refine wpS_skip (i := 16) (d := some 33) rfl (by rfl) rfl ?_
    simp only [Act.put, List.setIfInBounds_toArray, List.set_cons_succ, List.set_cons_zero]
    refine wpS_this [17, 18] rfl (by kernel_rfl) (by simp only [pickL, nthL, List.cons_append, List.nil_append]; rfl) ?_
    repeat (go_big_quiet_step (fail))
    refine wpQuiet_nil ?_
    refine wpS_nil ?_
    refine then_normal ?_
    refine wp_ret ?_
    refine bodyPost_ret (results_tmp rfl _ _ _) rfl ?_
    rw [hc.out]
    exact does_ret (Mem.only (M := [_]) HM4.out [1] rfl) rfl rfl
  · have g1 : (a1 == 0) = false := beq_eq_false_iff_ne.2 (by omega)
    have g4 : decide (1 ≤ a1) = false := decide_eq_false (by omega)
    replace hz := Lib.hid hz
    replace hc := Lib.hid hc
    clear h1 h2
    refine wp_region_N [(0, 1), (1, 1), (2, 1), (3, 1), (4, 1), (5, 1), (6, 1), (7, 1), (8, 1), (9, 1), (10, 1), (11, 1), (12, 1), (13, 1)] (by kernel_rfl) ?_
    have Cb1 := Mem.cell HM4.out 0 rfl
    refine wpS_this [0, 1, 2, 3, 4, 5, 6, 7, 8, 9, 10, 11, 12, 13] rfl (by kernel_rfl) (by simp only [pickL, nthL, List.cons_append, List.nil_append]; rfl) ?_
    repeat (go_big_quiet_step (fail))
    refine wpQuiet_nil ?_
    clear Cb1
    refine wpS_nil ?_
    refine then_normal ?_
    refine wp_cond_false rfl ?_
    refine wp_skip ?_
    refine then_normal ?_
    refine wp_seq ?_
    refine wp_region_N [(0, 1), (1, 1), (2, 1), (3, 1), (4, 1), (5, 1), (6, 1), (7, 1), (8, 1), (9, 1), (10, 1), (11, 3), (12, 1), (13, 1), (14, 1), (15, 1), (16, 3), (17, 1), (18, 1)] (by kernel_rfl) ?_
    have Cb1 := Mem.cell HM4.out 0 rfl
    refine wpS_this [0, 1, 2, 3, 4, 5, 6, 7, 8, 9, 10] rfl (by kernel_rfl) (by simp only [pickL, nthL, List.cons_append, List.nil_append]; rfl) ?_
    repeat (go_big_quiet_step (fail))
    refine wpQuiet_nil ?_
    clear Cb1
    refine wpS_skip (i := 11) (d := some 28) rfl (by rfl) rfl ?_
    simp only [Act.put, List.setIfInBounds_toArray, List.set_cons_succ, List.set_cons_zero]
    have Cb1 := Mem.cell HM4.out 0 rfl
    refine wpS_this [12, 13, 14, 15] rfl (by kernel_rfl) (by simp only [pickL, nthL, List.cons_append, List.nil_append]; rfl) ?_
    repeat (go_big_quiet_step (fail))
    refine wpQuiet_nil ?_
    clear Cb1
    refine wpS_skip (i := 16) (d := some 33) rfl (by rfl) rfl ?_
    simp only [Act.put, List.setIfInBounds_toArray, List.set_cons_succ, List.set_cons_zero]
    refine wpS_this [17, 18] rfl (by kernel_rfl) (by simp only [pickL, nthL, List.cons_append, List.nil_append]; rfl) ?_
    repeat (go_big_quiet_step (fail))
    refine wpQuiet_nil ?_
    refine wpS_nil ?_
    refine then_normal ?_
    refine wp_ret ?_
    refine bodyPost_ret (results_tmp rfl _ _ _) rfl ?_
    rw [hc.out]
    exact does_ret (Mem.only (M := [_]) HM4.out [1] rfl) rfl rfl
  · have g1 : (a1 == 0) = false := beq_eq_false_iff_ne.2 (by omega)
    have g4 : decide (1 ≤ a1) = true := decide_eq_true (by omega)
    have g5 : decide (a1 ≤ 1000000) = false := decide_eq_false (by omega)
    replace hz := Lib.hid hz
    replace hc := Lib.hid hc
    clear h1 h2
    clear h3
    refine wp_region_N [(0, 1), (1, 1), (2, 1), (3, 1), (4, 1), (5, 1), (6, 1), (7, 1), (8, 1), (9, 1), (10, 1), (11, 1), (12, 1), (13, 1)] (by kernel_rfl) ?_
    have Cb1 := Mem.cell HM4.out 0 rfl
    refine wpS_this [0, 1, 2, 3, 4, 5, 6, 7, 8, 9, 10, 11, 12, 13] rfl (by kernel_rfl) (by simp only [pickL, nthL, List.cons_append, List.nil_append]; rfl) ?_
    repeat (go_big_quiet_step (fail))
    refine wpQuiet_nil ?_
    clear Cb1
    refine wpS_nil ?_
    refine then_normal ?_
    refine wp_cond_false rfl ?_
    refine wp_skip ?_
    refine then_normal ?_
    refine wp_seq ?_
    refine wp_region_N [(0, 1), (1, 1), (2, 1), (3, 1), (4, 1), (5, 1), (6, 1), (7, 1), (8, 1), (9, 1), (10, 1), (11, 3), (12, 1), (13, 1), (14, 1), (15, 1), (16, 3), (17, 1), (18, 1)] (by kernel_rfl) ?_
    have Cb1 := Mem.cell HM4.out 0 rfl
    refine wpS_this [0, 1, 2, 3, 4, 5, 6, 7, 8, 9, 10] rfl (by kernel_rfl) (by simp only [pickL, nthL, List.cons_append, List.nil_append]; rfl) ?_
    repeat (go_big_quiet_step (fail))
    refine wpQuiet_nil ?_
    clear Cb1
    refine wpS_skip (i := 11) (d := some 28) rfl (by rfl) rfl ?_
    simp only [Act.put, List.setIfInBounds_toArray, List.set_cons_succ, List.set_cons_zero]
    have Cb1 := Mem.cell HM4.out 0 rfl
    refine wpS_this [12, 13, 14, 15] rfl (by kernel_rfl) (by simp only [pickL, nthL, List.cons_append, List.nil_append]; rfl) ?_
    repeat (go_big_quiet_step (fail))
    refine wpQuiet_nil ?_
    clear Cb1
    refine wpS_skip (i := 16) (d := some 33) rfl (by rfl) rfl ?_
    simp only [Act.put, List.setIfInBounds_toArray, List.set_cons_succ, List.set_cons_zero]
    refine wpS_this [17, 18] rfl (by kernel_rfl) (by simp only [pickL, nthL, List.cons_append, List.nil_append]; rfl) ?_
    repeat (go_big_quiet_step (fail))
    refine wpQuiet_nil ?_
    refine wpS_nil ?_
    refine then_normal ?_
    refine wp_ret ?_
    refine bodyPost_ret (results_tmp rfl _ _ _) rfl ?_
    rw [hc.out]
    exact does_ret (Mem.only (M := [_]) HM4.out [1] rfl) rfl rfl
  · have g1 : (a1 == 0) = false := beq_eq_false_iff_ne.2 (by omega)
    have g4 : decide (1 ≤ a1) = true := decide_eq_true (by omega)
    have g5 : decide (a1 ≤ 1000000) = true := decide_eq_true (by omega)
    replace hn := Lib.hid hn
    replace hz := Lib.hid hz
    replace hc := Lib.hid hc
    clear h1 h2
    clear h3
    refine wp_region_N [(0, 1), (1, 1), (2, 1), (3, 1), (4, 1), (5, 1), (6, 1), (7, 1), (8, 1), (9, 1), (10, 1), (11, 1), (12, 1), (13, 1)] (by kernel_rfl) ?_
    have Cb1 := Mem.cell HM4.out 0 rfl
    refine wpS_this [0, 1, 2, 3, 4, 5, 6, 7, 8, 9, 10, 11, 12, 13] rfl (by kernel_rfl) (by simp only [pickL, nthL, List.cons_append, List.nil_append]; rfl) ?_
    repeat (go_big_quiet_step (fail))
    refine wpQuiet_nil ?_
    clear Cb1
    refine wpS_nil ?_
    refine then_normal ?_
    refine wp_cond_false rfl ?_
    refine wp_skip ?_
    refine then_normal ?_
    refine wp_seq ?_
    refine wp_region_N [(0, 1), (1, 1), (2, 1), (3, 1), (4, 1), (5, 1), (6, 1), (7, 1), (8, 1), (9, 1), (10, 1), (11, 3), (12, 1), (13, 1), (14, 1), (15, 1), (16, 3), (17, 1), (18, 1)] (by kernel_rfl) ?_
    have Cb1 := Mem.cell HM4.out 0 rfl
    refine wpS_this [0, 1, 2, 3, 4, 5, 6, 7, 8, 9, 10] rfl (by kernel_rfl) (by simp only [pickL, nthL, List.cons_append, List.nil_append]; rfl) ?_
    repeat (go_big_quiet_step (fail))
    refine wpQuiet_nil ?_
    clear Cb1
    refine wpS_does1 (i := 11) (d := some 28) (rem := [_, _]) (out := [_, _]) rfl (by rfl) rfl Try.call70 (rnode_d a2) rfl HM4.out [] rfl covS_nil rfl rfl ?_
    rintro W6 hm5 -
    rw [hn.out]
    have HM7 := Lib.hid hm5
    clear hm5
    simp only [Act.put, List.setIfInBounds_toArray, List.set_cons_succ, List.set_cons_zero]
    have Cb1 := Mem.cell HM7.out 0 rfl
    refine wpS_this [12, 13, 14, 15] rfl (by kernel_rfl) (by simp only [pickL, nthL, List.cons_append, List.nil_append]; rfl) ?_
    repeat (go_big_quiet_step (fail))
    refine wpQuiet_nil ?_
    clear Cb1
    refine wpS_skip (i := 16) (d := some 33) rfl (by rfl) rfl ?_
    simp only [Act.put, List.setIfInBounds_toArray, List.set_cons_succ, List.set_cons_zero]
    refine wpS_this [17, 18] rfl (by kernel_rfl) (by simp only [pickL, nthL, List.cons_append, List.nil_append]; rfl) ?_
    repeat (go_big_quiet_step (fail))
    refine wpQuiet_nil ?_
    refine wpS_nil ?_
    refine then_normal ?_
    refine wp_ret ?_
    refine bodyPost_ret (results_tmp rfl _ _ _) rfl ?_
    rw [hc.out]
    exact does_ret (Mem.only (M := [_]) HM7.out [1] rfl) rfl rfl
  · have g1 : (a1 == 0) = false := beq_eq_false_iff_ne.2 (by omega)
    have g4 : decide (1 ≤ a1) = true := decide_eq_true (by omega)
    have g5 : decide (a1 ≤ 1000000) = true := decide_eq_true (by omega)
    replace hn := Lib.hid hn
    replace hz := Lib.hid hz
    replace hc := Lib.hid hc
    clear h1 h2
    clear h3
    refine wp_region_N [(0, 1), (1, 1), (2, 1), (3, 1), (4, 1), (5, 1), (6, 1), (7, 1), (8, 1), (9, 1), (10, 1), (11, 1), (12, 1), (13, 1)] (by kernel_rfl) ?_
    have Cb1 := Mem.cell HM4.out 0 rfl
    refine wpS_this [0, 1, 2, 3, 4, 5, 6, 7, 8, 9, 10, 11, 12, 13] rfl (by kernel_rfl) (by simp only [pickL, nthL, List.cons_append, List.nil_append]; rfl) ?_
    repeat (go_big_quiet_step (fail))
    refine wpQuiet_nil ?_
    clear Cb1
    refine wpS_nil ?_
    refine then_normal ?_
    refine wp_cond_false rfl ?_
    refine wp_skip ?_
    refine then_normal ?_
    refine wp_seq ?_
    refine wp_region_N [(0, 1), (1, 1), (2, 1), (3, 1), (4, 1), (5, 1), (6, 1), (7, 1), (8, 1), (9, 1), (10, 1), (11, 3), (12, 1), (13, 1), (14, 1), (15, 1), (16, 3), (17, 1), (18, 1)] (by kernel_rfl) ?_
    have Cb1 := Mem.cell HM4.out 0 rfl
    refine wpS_this [0, 1, 2, 3, 4, 5, 6, 7, 8, 9, 10] rfl (by kernel_rfl) (by simp only [pickL, nthL, List.cons_append, List.nil_append]; rfl) ?_
    repeat (go_big_quiet_step (fail))
    refine wpQuiet_nil ?_
    clear Cb1
    refine wpS_does1 (i := 11) (d := some 28) (rem := [_, _]) (out := [_, _]) rfl (by rfl) rfl Try.call70 (rnode_d a2) rfl HM4.out [] rfl covS_nil rfl rfl ?_
    rintro W9 hm8 -
    rw [hn.out]
    have HM10 := Lib.hid hm8
    clear hm8
    simp only [Act.put, List.setIfInBounds_toArray, List.set_cons_succ, List.set_cons_zero]
    have Cb1 := Mem.cell HM10.out 0 rfl
    refine wpS_this [12, 13, 14, 15] rfl (by kernel_rfl) (by simp only [pickL, nthL, List.cons_append, List.nil_append]; rfl) ?_
    repeat (go_big_quiet_step (fail))
    refine wpQuiet_nil ?_
    clear Cb1
    refine wpS_does1 (i := 16) (d := some 33) (rem := [_]) (out := [_, _]) rfl (by rfl) rfl Try.call71 (rtgt_d R _ sa ha la) rfl HM10.out [1] rfl covS_nil rfl rfl ?_
    rintro W12 hm11 -
    have HM13 := Lib.hid hm11
    clear hm11
    simp only [Act.put, List.setIfInBounds_toArray, List.set_cons_succ, List.set_cons_zero]
    refine wpS_this [17, 18] rfl (by kernel_rfl) (by simp only [pickL, nthL, List.cons_append, List.nil_append]; rfl) ?_
    repeat (go_big_quiet_step (fail))
    refine wpQuiet_nil ?_
    refine wpS_nil ?_
    refine then_normal ?_
    refine wp_ret ?_
    refine bodyPost_ret (results_tmp rfl _ _ _) rfl ?_
    rw [hc.out]
    exact does_ret (Mem.only (M := [_]) HM13.out [0] rfl) rfl rfl
set_option maxHeartbeats 4000000 in
set_option maxRecDepth 100000 in
theorem rcompare_d (R : At) (va : Value) (a1 a2 : Int) (sa : List Int) (ha : Reads elemI R va sa) (la : sa.length ≤ 1000) (vb : Value) (b1 b2 : Int) (sb : List Int) (hb : Reads elemI R vb sb) (_lb : sb.length ≤ 1000) : Does Try.prog 60 #[.agg #[.int .i64 a1, .int .i64 a2, va], .agg #[.int .i64 b1, .int .i64 b2, vb]] [R] (.int .i64 (cmpP (a1, a2, sa) (b1, b2, sb))) [R] := by
  intro w H hp
  have HM0 := Lib.hid (mem_refl hp)
  clear hp
  obtain ⟨pa, ca, rfl⟩ := row_form (Mem.src HM0.out 0 rfl ha)
  obtain ⟨pb, cb, rfl⟩ := row_form (Mem.src HM0.out 0 rfl hb)
  go_enter Try.func60, Try.ntmps60
  refine wp_seq ?_
  refine wp_region_N [(0, 3), (1, 3), (2, 1)] (by kernel_rfl) ?_
  refine wpS_boxA (i := 0) (dd := 2) rfl (by rfl) rfl rfl HM0.out covS_nil rfl ?_
  rintro b3 W2 hm1 -
  have HM4 := Lib.hid hm1
  clear hm1
  simp only [Act.put, List.setIfInBounds_toArray, List.set_cons_succ, List.set_cons_zero]
  refine wpS_boxA (i := 1) (dd := 3) rfl (by rfl) rfl rfl HM4.out covS_nil rfl ?_
  rintro b7 W6 hm5 -
  have HM8 := Lib.hid hm5
  clear hm5
  simp only [Act.put, List.setIfInBounds_toArray, List.set_cons_succ, List.set_cons_zero]
  refine wpS_this [2] rfl (by kernel_rfl) (by simp only [pickL, nthL, List.cons_append, List.nil_append]; rfl) ?_
  repeat (go_big_quiet_step (fail))
  refine wpQuiet_nil ?_
  refine wpS_nil ?_
  refine then_normal ?_
  refine wp_seq ?_
  refine wp_seq ?_
  rcases cmp_ways (a1, a2, sa) (b1, b2, sb) with ⟨h1, hc⟩ | ⟨h1, h2, hc⟩ | ⟨h1, h2, h3, hc⟩ | ⟨h1, h2, h3, hc⟩
  · have g1 : (a1 != b1) = true := bne_iff_ne.2 h1
    replace hc := Lib.hid hc
    clear h1
    refine wp_region_N [(0, 1), (1, 1), (2, 1), (3, 1), (4, 1)] (by kernel_rfl) ?_
    have Cb2 := Mem.cell HM8.out 1 rfl
    have Cb3 := Mem.cell HM8.out 0 rfl
    refine wpS_this [0, 1, 2, 3, 4] rfl (by kernel_rfl) (by simp only [pickL, nthL, List.cons_append, List.nil_append]; rfl) ?_
    repeat (go_big_quiet_step (fail))
    refine wpQuiet_nil ?_
    clear Cb2 Cb3
    refine wpS_nil ?_
    refine then_normal ?_
    refine wp_cond_true rfl ?_
    refine wp_seq ?_
    refine wp_region_N [(0, 1), (1, 1), (2, 1), (3, 1), (4, 3), (5, 1)] (by kernel_rfl) ?_
    have Cb2 := Mem.cell HM8.out 1 rfl
    have Cb3 := Mem.cell HM8.out 0 rfl
    refine wpS_this [0, 1, 2, 3] rfl (by kernel_rfl) (by simp only [pickL, nthL, List.cons_append, List.nil_append]; rfl) ?_
    repeat (go_big_quiet_step (fail))
    refine wpQuiet_nil ?_
    clear Cb2 Cb3
    refine wpS_does2 (i := 4) (d := some 15) (rem := [_, _, _]) (out := [_, _, _]) rfl (by rfl) rfl Try.call72 (rcmp_d a1 b1) rfl rfl HM8.out [] rfl covS_nil rfl rfl ?_
    rintro W10 hm9 -
    have HM11 := Lib.hid hm9
    clear hm9
    simp only [Act.put, List.setIfInBounds_toArray, List.set_cons_succ, List.set_cons_zero]
    refine wpS_this [5] rfl (by kernel_rfl) (by simp only [pickL, nthL, List.cons_append, List.nil_append]; rfl) ?_
    repeat (go_big_quiet_step (fail))
    refine wpQuiet_nil ?_
    refine wpS_nil ?_
    refine then_normal ?_
    refine wp_ret ?_
    refine then_ret ?_
    refine bodyPost_ret (results_tmp rfl _ _ _) rfl ?_
    rw [hc.out]
    exact does_ret (Mem.only (M := [_]) HM11.out [2] rfl) rfl rfl
  · have g1 : (a1 != b1) = false := by simpa using h1
    have g2 : (a2 != b2) = true := bne_iff_ne.2 h2
    replace hc := Lib.hid hc
    clear h1 h2
    refine wp_region_N [(0, 1), (1, 1), (2, 1), (3, 1), (4, 1)] (by kernel_rfl) ?_
    have Cb2 := Mem.cell HM8.out 1 rfl
    have Cb3 := Mem.cell HM8.out 0 rfl
    refine wpS_this [0, 1, 2, 3, 4] rfl (by kernel_rfl) (by simp only [pickL, nthL, List.cons_append, List.nil_append]; rfl) ?_
    repeat (go_big_quiet_step (fail))
    refine wpQuiet_nil ?_
    clear Cb2 Cb3
    refine wpS_nil ?_
    refine then_normal ?_
    refine wp_cond_false rfl ?_
    refine wp_skip ?_
    refine then_normal ?_
    refine wp_seq ?_
    refine wp_seq ?_
    refine wp_region_N [(0, 1), (1, 1), (2, 1), (3, 1), (4, 1)] (by kernel_rfl) ?_
    have Cb2 := Mem.cell HM8.out 1 rfl
    have Cb3 := Mem.cell HM8.out 0 rfl
    refine wpS_this [0, 1, 2, 3, 4] rfl (by kernel_rfl) (by simp only [pickL, nthL, List.cons_append, List.nil_append]; rfl) ?_
    repeat (go_big_quiet_step (fail))
    refine wpQuiet_nil ?_
    clear Cb2 Cb3
    refine wpS_nil ?_
    refine then_normal ?_
    refine wp_cond_true rfl ?_
    refine wp_seq ?_
    refine wp_region_N [(0, 1), (1, 1), (2, 1), (3, 1), (4, 3), (5, 1)] (by kernel_rfl) ?_
    have Cb2 := Mem.cell HM8.out 1 rfl
    have Cb3 := Mem.cell HM8.out 0 rfl
    refine wpS_this [0, 1, 2, 3] rfl (by kernel_rfl) (by simp only [pickL, nthL, List.cons_append, List.nil_append]; rfl) ?_
    repeat (go_big_quiet_step (fail))
    refine wpQuiet_nil ?_
    clear Cb2 Cb3
    refine wpS_does2 (i := 4) (d := some 25) (rem := [_, _, _]) (out := [_, _, _]) rfl (by rfl) rfl Try.call72 (rcmp_d a2 b2) rfl rfl HM8.out [] rfl covS_nil rfl rfl ?_
    rintro W13 hm12 -
    have HM14 := Lib.hid hm12
    clear hm12
    simp only [Act.put, List.setIfInBounds_toArray, List.set_cons_succ, List.set_cons_zero]
    refine wpS_this [5] rfl (by kernel_rfl) (by simp only [pickL, nthL, List.cons_append, List.nil_append]; rfl) ?_
    repeat (go_big_quiet_step (fail))
    refine wpQuiet_nil ?_
    refine wpS_nil ?_
    refine then_normal ?_
    refine wp_ret ?_
    refine then_ret ?_
    refine bodyPost_ret (results_tmp rfl _ _ _) rfl ?_
    rw [hc.out]
    exact does_ret (Mem.only (M := [_]) HM14.out [2] rfl) rfl rfl
  · have g1 : (a1 != b1) = false := by simpa using h1
    have g2 : (a2 != b2) = false := by simpa using h2
    have g3 : ((sa.length : Int) != (sb.length : Int)) = true := bne_iff_ne.2 (by dsimp only at h3; omega)
    replace hc := Lib.hid hc
    clear h1 h2 h3
    refine wp_region_N [(0, 1), (1, 1), (2, 1), (3, 1), (4, 1)] (by kernel_rfl) ?_
    have Cb2 := Mem.cell HM8.out 1 rfl
    have Cb3 := Mem.cell HM8.out 0 rfl
    refine wpS_this [0, 1, 2, 3, 4] rfl (by kernel_rfl) (by simp only [pickL, nthL, List.cons_append, List.nil_append]; rfl) ?_
    repeat (go_big_quiet_step (fail))
    refine wpQuiet_nil ?_
    clear Cb2 Cb3
    refine wpS_nil ?_
    refine then_normal ?_
    refine wp_cond_false rfl ?_
    refine wp_skip ?_
    refine then_normal ?_
    refine wp_seq ?_
    refine wp_seq ?_
    refine wp_region_N [(0, 1), (1, 1), (2, 1), (3, 1), (4, 1)] (by kernel_rfl) ?_
    have Cb2 := Mem.cell HM8.out 1 rfl
    have Cb3 := Mem.cell HM8.out 0 rfl
    refine wpS_this [0, 1, 2, 3, 4] rfl (by kernel_rfl) (by simp only [pickL, nthL, List.cons_append, List.nil_append]; rfl) ?_
    repeat (go_big_quiet_step (fail))
    refine wpQuiet_nil ?_
    clear Cb2 Cb3
    refine wpS_nil ?_
    refine then_normal ?_
    refine wp_cond_false rfl ?_
    refine wp_skip ?_
    refine then_normal ?_
    refine wp_seq ?_
    refine wp_seq ?_
    refine wp_region_N [(0, 1), (1, 1), (2, 1), (3, 1), (4, 1), (5, 1), (6, 1)] (by kernel_rfl) ?_
    have Cb2 := Mem.cell HM8.out 1 rfl
    have Cb3 := Mem.cell HM8.out 0 rfl
    refine wpS_this [0, 1, 2, 3, 4, 5, 6] rfl (by kernel_rfl) (by simp only [pickL, nthL, List.cons_append, List.nil_append]; rfl) ?_
    repeat (go_big_quiet_step (fail))
    refine wpQuiet_nil ?_
    clear Cb2 Cb3
    refine wpS_nil ?_
    refine then_normal ?_
    refine wp_cond_true rfl ?_
    refine wp_seq ?_
    refine wp_region_N [(0, 1), (1, 1), (2, 1), (3, 1), (4, 1), (5, 1), (6, 3), (7, 1)] (by kernel_rfl) ?_
    have Cb2 := Mem.cell HM8.out 1 rfl
    have Cb3 := Mem.cell HM8.out 0 rfl
    refine wpS_this [0, 1, 2, 3, 4, 5] rfl (by kernel_rfl) (by simp only [pickL, nthL, List.cons_append, List.nil_append]; rfl) ?_
    repeat (go_big_quiet_step (fail))
    refine wpQuiet_nil ?_
    clear Cb2 Cb3
    refine wpS_does2 (i := 6) (d := some 39) (rem := [_, _, _]) (out := [_, _, _]) rfl (by rfl) rfl Try.call72 (rcmp_d sa.length sb.length) rfl rfl HM8.out [] rfl covS_nil rfl rfl ?_
    rintro W16 hm15 -
    have HM17 := Lib.hid hm15
    clear hm15
    simp only [Act.put, List.setIfInBounds_toArray, List.set_cons_succ, List.set_cons_zero]
    refine wpS_this [7] rfl (by kernel_rfl) (by simp only [pickL, nthL, List.cons_append, List.nil_append]; rfl) ?_
    repeat (go_big_quiet_step (fail))
    refine wpQuiet_nil ?_
    refine wpS_nil ?_
    refine then_normal ?_
    refine wp_ret ?_
    refine then_ret ?_
    refine bodyPost_ret (results_tmp rfl _ _ _) rfl ?_
    rw [hc.out]
    exact does_ret (Mem.only (M := [_]) HM17.out [2] rfl) rfl rfl
  · have g1 : (a1 != b1) = false := by simpa using h1
    have g2 : (a2 != b2) = false := by simpa using h2
    have g3 : ((sa.length : Int) != (sb.length : Int)) = false := by dsimp only at h3; rw [h3]; exact bne_self_eq_false _
    replace hc := Lib.hid hc
    have hl := Lib.hid h3
    replace hl : Hid (sa.length = sb.length) := hl
    clear h1 h2 h3
    refine wp_region_N [(0, 1), (1, 1), (2, 1), (3, 1), (4, 1)] (by kernel_rfl) ?_
    have Cb2 := Mem.cell HM8.out 1 rfl
    have Cb3 := Mem.cell HM8.out 0 rfl
    refine wpS_this [0, 1, 2, 3, 4] rfl (by kernel_rfl) (by simp only [pickL, nthL, List.cons_append, List.nil_append]; rfl) ?_
    repeat (go_big_quiet_step (fail))
    refine wpQuiet_nil ?_
    clear Cb2 Cb3
    refine wpS_nil ?_
    refine then_normal ?_
    refine wp_cond_false rfl ?_
    refine wp_skip ?_
    refine then_normal ?_
    refine wp_seq ?_
    refine wp_seq ?_
    refine wp_region_N [(0, 1), (1, 1), (2, 1), (3, 1), (4, 1)] (by kernel_rfl) ?_
    have Cb2 := Mem.cell HM8.out 1 rfl
    have Cb3 := Mem.cell HM8.out 0 rfl
    refine wpS_this [0, 1, 2, 3, 4] rfl (by kernel_rfl) (by simp only [pickL, nthL, List.cons_append, List.nil_append]; rfl) ?_
    repeat (go_big_quiet_step (fail))
    refine wpQuiet_nil ?_
    clear Cb2 Cb3
    refine wpS_nil ?_
    refine then_normal ?_
    refine wp_cond_false rfl ?_
    refine wp_skip ?_
    refine then_normal ?_
    refine wp_seq ?_
    refine wp_seq ?_
    refine wp_region_N [(0, 1), (1, 1), (2, 1), (3, 1), (4, 1), (5, 1), (6, 1)] (by kernel_rfl) ?_
    have Cb2 := Mem.cell HM8.out 1 rfl
    have Cb3 := Mem.cell HM8.out 0 rfl
    refine wpS_this [0, 1, 2, 3, 4, 5, 6] rfl (by kernel_rfl) (by simp only [pickL, nthL, List.cons_append, List.nil_append]; rfl) ?_
    repeat (go_big_quiet_step (fail))
    refine wpQuiet_nil ?_
    clear Cb2 Cb3
    refine wpS_nil ?_
    refine then_normal ?_
    refine wp_cond_false rfl ?_
    refine wp_skip ?_
    refine then_normal ?_
    refine wp_seq ?_
    refine wp_seq ?_
    refine wp_region_N [(0, 1), (1, 1), (2, 1), (3, 1)] (by kernel_rfl) ?_
    have Cb2 := Mem.cell HM8.out 1 rfl
    refine wpS_this [0, 1, 2, 3] rfl (by kernel_rfl) (by simp only [pickL, nthL, List.cons_append, List.nil_append]; rfl) ?_
    repeat (go_big_quiet_step (fail))
    refine wpQuiet_nil ?_
    clear Cb2
    refine wpS_nil ?_
    refine then_normal ?_
    refine wp_block ?_
    refine wp_loop_F [4, 5, 43, 44, 45, 46, 47, 48, 49, 50, 51, 52, 53, 54, 55, 56, 57, 58, 59, 60, 61, 62, 63, 64, 65, 66, 67, 68] (fun n vs W' => ∃ k : Nat, n = sa.length - k ∧ vs 43 = .int .i64 (k : Int) ∧ k ≤ sa.length ∧ cmpL (sa.drop k) (sb.drop k) = cmpL sa sb ∧ Mem [boxT b3 (.cells #[.int .i64 a1, .int .i64 a2, .slice pa sa.length ca] 36 (0, 0)), boxT b7 (.cells #[.int .i64 b1, .int .i64 b2, .slice pb sb.length cb] 36 (0, 0)), R] H w W') (n0 := sa.length) ?_ ?_
    · exact ⟨0, rfl, rfl, Nat.zero_le _, rfl, (Mem.only (M := [_, _, _]) HM8.out [1, 0, 0] rfl)⟩
    rintro n vs W' ⟨k, rfl, e43, hk, hf, hm⟩
    simp only [putAll, List.map_cons, List.map_nil, Act.put, List.setIfInBounds_toArray, List.set_cons_succ, List.set_cons_zero]
    rw [e43]
    clear e43
    have hf := Lib.hid hf
    have HM18 := Lib.hid hm
    clear hm
    refine wp_seq ?_
    refine wp_region_N [(0, 1)] (by kernel_rfl) ?_
    refine wpS_this [0] rfl (by kernel_rfl) (by simp only [pickL, nthL, List.cons_append, List.nil_append]; rfl) ?_
    repeat (go_big_quiet_step (fail))
    refine wpQuiet_nil ?_
    refine wpS_nil ?_
    refine then_normal ?_
    refine wp_seq ?_
    refine wp_cond_split rfl (fun h19 => ?_) (fun h19 => ?_)
    · have hk1 : k + 1 ≤ sa.length := by have : (k : Int) < ((sa.length : Nat) : Int) := (by simpa using h19); omega
      clear h19
      obtain ⟨x, hx'⟩ : ∃ y, sa[k]? = some y := ⟨_, List.getElem?_eq_getElem (hk1)⟩
      have hx := Lib.hid hx'
      clear hx'
      obtain ⟨y, hy'⟩ : ∃ y, sb[k]? = some y := ⟨_, List.getElem?_eq_getElem (by have := hl.out; omega)⟩
      have hy := Lib.hid hy'
      clear hy'
      refine wp_skip ?_
      refine then_normal ?_
      refine wp_seq ?_
      refine wp_block ?_
      refine wp_seq ?_
      refine wp_region_N [(0, 1), (1, 1)] (by kernel_rfl) ?_
      refine wpS_this [0, 1] rfl (by kernel_rfl) (by simp only [pickL, nthL, List.cons_append, List.nil_append]; rfl) ?_
      repeat (go_big_quiet_step (fail))
      refine wpQuiet_nil ?_
      refine wpS_nil ?_
      refine then_normal ?_
      refine wp_seq ?_
      by_cases hxy : cmpI x y = 0
      · have hxe : x = y := (cmpI_zero _ _).1 hxy
        have g4 : (x != y) = false := by simp [hxe]
        clear hxe
        replace hxy := Lib.hid hxy
        refine wp_region_M (fun k => k ∈ ([] : List Nat)) [(0, 1), (1, 1), (2, 1), (3, 1), (4, 1), (5, 1), (6, 1), (7, 1), (8, 1), (9, 1), (10, 1)] (by kernel_rfl) (by kernel_rfl) HM18.out ?_
        intro W20 hm21
        have HM22 := Lib.hid hm21
        clear hm21
        have Cb2 := Mem.cell HM22.out 0 rfl
        refine wpS_this [0, 1, 2] rfl (by kernel_rfl) (by simp only [pickL, nthL, List.cons_append, List.nil_append]; rfl) ?_
        repeat (go_big_quiet_step (fail))
        refine wpQuiet_nil ?_
        clear Cb2
        refine wpS_index (E := elemI) (i := 3) (d := some 49) rfl (by rfl) rfl rfl rfl (HM22.out.row 2 rfl ha.row) (hx.out) rfl ?_
        intro eb23 eo24 hc25
        simp only [Act.put, List.setIfInBounds_toArray, List.set_cons_succ, List.set_cons_zero]
        refine wpS_load1 (i := 4) (d := some 50) (u := .int .i64 x) rfl (by rfl) rfl rfl (hc25 0 _ rfl) Try.underlying3 rfl rfl ?_
        simp only [Act.put, List.setIfInBounds_toArray, List.set_cons_succ, List.set_cons_zero]
        have Cb3 := Mem.cell HM22.out 1 rfl
        refine wpS_this [5, 6, 7] rfl (by kernel_rfl) (by simp only [pickL, nthL, List.cons_append, List.nil_append]; rfl) ?_
        repeat (go_big_quiet_step (fail))
        refine wpQuiet_nil ?_
        clear Cb3
        refine wpS_index (E := elemI) (i := 8) (d := some 54) rfl (by rfl) rfl rfl rfl (HM22.out.row 2 rfl hb.row) (hy.out) rfl ?_
        intro eb26 eo27 hc28
        simp only [Act.put, List.setIfInBounds_toArray, List.set_cons_succ, List.set_cons_zero]
        refine wpS_load1 (i := 9) (d := some 55) (u := .int .i64 y) rfl (by rfl) rfl rfl (hc28 0 _ rfl) Try.underlying3 rfl rfl ?_
        simp only [Act.put, List.setIfInBounds_toArray, List.set_cons_succ, List.set_cons_zero]
        refine wpS_this [10] rfl (by kernel_rfl) (by simp only [pickL, nthL, List.cons_append, List.nil_append]; rfl) ?_
        repeat (go_big_quiet_step (fail))
        refine wpQuiet_nil ?_
        refine wpS_nil ?_
        refine then_normal ?_
        refine wp_cond_false rfl ?_
        refine wp_skip ?_
        refine block_normal ?_
        refine then_normal ?_
        refine wp_region_N [(0, 1), (1, 1)] (by kernel_rfl) ?_
        refine wpS_this [0, 1] rfl (by kernel_rfl) (by simp only [pickL, nthL, List.cons_append, List.nil_append]; rfl) ?_
        repeat (go_big_quiet_step (fail))
        refine wpQuiet_nil ?_
        refine wpS_nil ?_
        refine then_normal ?_
        refine ⟨by kernel_rfl, ?_⟩
        refine ⟨sa.length - (k + 1), by omega, k + 1, rfl, rfl, hk1, ?_, (Mem.only (M := [_, _, _]) HM22.out [0, 0, 0] rfl)⟩
        rw [← hf.out, cmpL_step hx.out hy.out, orI_next hxy.out]
      · have hxe : x ≠ y := fun h => hxy ((cmpI_zero _ _).2 h)
        have g4 : (x != y) = true := bne_iff_ne.2 hxe
        clear hxe
        replace hxy := Lib.hid hxy
        refine wp_region_M (fun k => k ∈ ([] : List Nat)) [(0, 1), (1, 1), (2, 1), (3, 1), (4, 1), (5, 1), (6, 1), (7, 1), (8, 1), (9, 1), (10, 1)] (by kernel_rfl) (by kernel_rfl) HM18.out ?_
        intro W29 hm30
        have HM31 := Lib.hid hm30
        clear hm30
        have Cb2 := Mem.cell HM31.out 0 rfl
        refine wpS_this [0, 1, 2] rfl (by kernel_rfl) (by simp only [pickL, nthL, List.cons_append, List.nil_append]; rfl) ?_
        repeat (go_big_quiet_step (fail))
        refine wpQuiet_nil ?_
        clear Cb2
        refine wpS_index (E := elemI) (i := 3) (d := some 49) rfl (by rfl) rfl rfl rfl (HM31.out.row 2 rfl ha.row) (hx.out) rfl ?_
        intro eb32 eo33 hc34
        simp only [Act.put, List.setIfInBounds_toArray, List.set_cons_succ, List.set_cons_zero]
        refine wpS_load1 (i := 4) (d := some 50) (u := .int .i64 x) rfl (by rfl) rfl rfl (hc34 0 _ rfl) Try.underlying3 rfl rfl ?_
        simp only [Act.put, List.setIfInBounds_toArray, List.set_cons_succ, List.set_cons_zero]
        have Cb3 := Mem.cell HM31.out 1 rfl
        refine wpS_this [5, 6, 7] rfl (by kernel_rfl) (by simp only [pickL, nthL, List.cons_append, List.nil_append]; rfl) ?_
        repeat (go_big_quiet_step (fail))
        refine wpQuiet_nil ?_
        clear Cb3
        refine wpS_index (E := elemI) (i := 8) (d := some 54) rfl (by rfl) rfl rfl rfl (HM31.out.row 2 rfl hb.row) (hy.out) rfl ?_
        intro eb35 eo36 hc37
        simp only [Act.put, List.setIfInBounds_toArray, List.set_cons_succ, List.set_cons_zero]
        refine wpS_load1 (i := 9) (d := some 55) (u := .int .i64 y) rfl (by rfl) rfl rfl (hc37 0 _ rfl) Try.underlying3 rfl rfl ?_
        simp only [Act.put, List.setIfInBounds_toArray, List.set_cons_succ, List.set_cons_zero]
        refine wpS_this [10] rfl (by kernel_rfl) (by simp only [pickL, nthL, List.cons_append, List.nil_append]; rfl) ?_
        repeat (go_big_quiet_step (fail))
        refine wpQuiet_nil ?_
        refine wpS_nil ?_
        refine then_normal ?_
        refine wp_cond_true rfl ?_
        refine wp_seq ?_
        refine wp_region_M (fun k => k ∈ ([] : List Nat)) [(0, 1), (1, 1), (2, 1), (3, 1), (4, 1), (5, 1), (6, 1), (7, 1), (8, 1), (9, 1), (10, 3), (11, 1)] (by kernel_rfl) (by kernel_rfl) HM31.out ?_
        intro W38 hm39
        have HM40 := Lib.hid hm39
        clear hm39
        have Cb2 := Mem.cell HM40.out 0 rfl
        refine wpS_this [0, 1, 2] rfl (by kernel_rfl) (by simp only [pickL, nthL, List.cons_append, List.nil_append]; rfl) ?_
        repeat (go_big_quiet_step (fail))
        refine wpQuiet_nil ?_
        clear Cb2
        refine wpS_index (E := elemI) (i := 3) (d := some 60) rfl (by rfl) rfl rfl rfl (HM40.out.row 2 rfl ha.row) (hx.out) rfl ?_
        intro eb41 eo42 hc43
        simp only [Act.put, List.setIfInBounds_toArray, List.set_cons_succ, List.set_cons_zero]
        refine wpS_load1 (i := 4) (d := some 61) (u := .int .i64 x) rfl (by rfl) rfl rfl (hc43 0 _ rfl) Try.underlying3 rfl rfl ?_
        simp only [Act.put, List.setIfInBounds_toArray, List.set_cons_succ, List.set_cons_zero]
        have Cb3 := Mem.cell HM40.out 1 rfl
        refine wpS_this [5, 6, 7] rfl (by kernel_rfl) (by simp only [pickL, nthL, List.cons_append, List.nil_append]; rfl) ?_
        repeat (go_big_quiet_step (fail))
        refine wpQuiet_nil ?_
        clear Cb3
        refine wpS_index (E := elemI) (i := 8) (d := some 65) rfl (by rfl) rfl rfl rfl (HM40.out.row 2 rfl hb.row) (hy.out) rfl ?_
        intro eb44 eo45 hc46
        simp only [Act.put, List.setIfInBounds_toArray, List.set_cons_succ, List.set_cons_zero]
        refine wpS_load1 (i := 9) (d := some 66) (u := .int .i64 y) rfl (by rfl) rfl rfl (hc46 0 _ rfl) Try.underlying3 rfl rfl ?_
        simp only [Act.put, List.setIfInBounds_toArray, List.set_cons_succ, List.set_cons_zero]
        refine wpS_does2 (i := 10) (d := some 67) (rem := [_, _, _]) (out := [_, _, _]) rfl (by rfl) rfl Try.call72 (rcmp_d x y) rfl rfl HM40.out [] rfl covS_nil rfl rfl ?_
        rintro W48 hm47 -
        have HM49 := Lib.hid hm47
        clear hm47
        simp only [Act.put, List.setIfInBounds_toArray, List.set_cons_succ, List.set_cons_zero]
        refine wpS_this [11] rfl (by kernel_rfl) (by simp only [pickL, nthL, List.cons_append, List.nil_append]; rfl) ?_
        repeat (go_big_quiet_step (fail))
        refine wpQuiet_nil ?_
        refine wpS_nil ?_
        refine then_normal ?_
        refine wp_ret ?_
        refine block_ret (then_ret (then_ret (block_ret (then_ret ?_))))
        refine bodyPost_ret (results_tmp rfl _ _ _) rfl ?_
        have hd : cmpL sa sb = cmpI x y := by rw [← hf.out, cmpL_step hx.out hy.out, orI_self hxy.out]
        rw [hc.out]
        show _ = Ending.returned (.int .i64 (cmpL sa sb)) ∧ _
        rw [hd]
        exact does_ret (Mem.only (M := [_]) HM49.out [2] rfl) rfl rfl
    · have hge : Hid (sa.length ≤ k) := Lib.hid (by have : ¬ (k : Int) < ((sa.length : Nat) : Int) := (by simpa using h19); omega)
      clear h19
      refine wp_exit ?_
      refine then_exit (then_exit (block_exit ?_))
      refine then_normal ?_
      refine wp_seq ?_
      refine wp_region_N [(0, 1)] (by kernel_rfl) ?_
      refine wpS_this [0] rfl (by kernel_rfl) (by simp only [pickL, nthL, List.cons_append, List.nil_append]; rfl) ?_
      repeat (go_big_quiet_step (fail))
      refine wpQuiet_nil ?_
      refine wpS_nil ?_
      refine then_normal ?_
      refine wp_ret ?_
      refine bodyPost_ret (results_tmp rfl _ _ _) rfl ?_
      have hd : cmpL sa sb = 0 := by
          have h1 := hge.out
          have h2 := hl.out
          rw [← hf.out, cmpL_end h1 hk (by omega), if_neg (by omega)]
      rw [hc.out]
      show _ = Ending.returned (.int .i64 (cmpL sa sb)) ∧ _
      rw [hd]
      exact does_ret (Mem.only (M := [_]) HM18.out [2] rfl) rfl rfl
set_option maxHeartbeats 4000000 in
set_option maxRecDepth 100000 in
theorem remay_d (e1 e2 : Int) : Does Try.prog 53 #[.agg #[.int .i64 e1, .int .i64 e2]] [] (.bool (mayE (e1, e2))) [] := by
  intro w H hp
  have HM0 := Lib.hid (mem_refl hp)
  clear hp
  go_enter Try.func53, Try.ntmps53
  refine wp_seq ?_
  refine wp_region_N [(0, 3), (1, 1)] (by kernel_rfl) ?_
  refine wpS_boxA (i := 0) (dd := 1) rfl (by rfl) rfl rfl HM0.out covS_nil rfl ?_
  rintro b3 W2 hm1 -
  have HM4 := Lib.hid hm1
  clear hm1
  simp only [Act.put, List.setIfInBounds_toArray, List.set_cons_succ, List.set_cons_zero]
  refine wpS_this [1] rfl (by kernel_rfl) (by simp only [pickL, nthL, List.cons_append, List.nil_append]; rfl) ?_
  repeat (go_big_quiet_step (fail))
  refine wpQuiet_nil ?_
  refine wpS_nil ?_
  refine then_normal ?_
  refine wp_seq ?_
  rcases (show (e1 = 0 ∧ e2 = 0) ∨ (¬ (e1 = 0 ∧ e2 = 0) ∧ ¬ 1 ≤ e1) ∨ (¬ (e1 = 0 ∧ e2 = 0) ∧ 1 ≤ e1 ∧ ¬ e1 ≤ 1000000) ∨ (¬ (e1 = 0 ∧ e2 = 0) ∧ 1 ≤ e1 ∧ e1 ≤ 1000000) from by omega) with hz | ⟨hz, ha⟩ | ⟨hz, ha, hb⟩ | ⟨hz, ha, hb⟩
  · have gz : decide (((e1, e2) : En) = ((0, 0) : En)) = true := decide_eq_true (by rw [hz.1, hz.2])
    have hc : Hid (mayE (e1, e2) = true) := Lib.hid (by rw [hz.1, hz.2]; rfl)
    clear hz
    refine wp_region_N [(0, 1), (1, 1), (2, 1), (3, 1), (4, 1), (5, 1), (6, 1), (7, 1), (8, 1), (9, 1), (10, 1), (11, 1), (12, 1), (13, 1), (14, 1), (15, 3), (16, 1), (17, 1), (18, 1)] (by kernel_rfl) ?_
    have Cb1 := Mem.cell HM4.out 0 rfl
    refine wpS_this [0, 1] rfl (by kernel_rfl) (by simp only [pickL, nthL, List.cons_append, List.nil_append]; rfl) ?_
    repeat (go_big_quiet_step (fail))
    refine wpQuiet_nil ?_
    clear Cb1
    refine wpS_read (i := 2) (d := some 5) rfl (by rfl) (run_eqEb (p := (e1, e2)) (q := (0, 0)) gz rfl rfl rfl) rfl ?_
    simp only [Act.put, List.setIfInBounds_toArray, List.set_cons_succ, List.set_cons_zero]
    have Cb1 := Mem.cell HM4.out 0 rfl
    refine wpS_this [3, 4, 5, 6, 7, 8, 9, 10, 11, 12, 13, 14] rfl (by kernel_rfl) (by simp only [pickL, nthL, List.cons_append, List.nil_append]; rfl) ?_
    repeat (go_big_quiet_step (fail))
    refine wpQuiet_nil ?_
    clear Cb1
    refine wpS_skip (i := 15) (d := some 18) rfl (by rfl) rfl ?_
    simp only [Act.put, List.setIfInBounds_toArray, List.set_cons_succ, List.set_cons_zero]
    refine wpS_this [16, 17, 18] rfl (by kernel_rfl) (by simp only [pickL, nthL, List.cons_append, List.nil_append]; rfl) ?_
    repeat (go_big_quiet_step (fail))
    refine wpQuiet_nil ?_
    refine wpS_nil ?_
    refine then_normal ?_
    refine wp_ret ?_
    refine bodyPost_ret (results_tmp rfl _ _ _) rfl ?_
    rw [hc.out]
    exact does_ret (Mem.only (M := []) HM4.out [] rfl) rfl rfl
  · have gz : decide (((e1, e2) : En) = ((0, 0) : En)) = false := decide_eq_false (fun h => hz ⟨congrArg Prod.fst h, congrArg Prod.snd h⟩)
    have ga : decide (1 ≤ e1) = false := decide_eq_false (by omega)
    have hc : Hid (mayE (e1, e2) = false) := Lib.hid (by refine decide_eq_false ?_; dsimp only; omega)
    clear hz
    refine wp_region_N [(0, 1), (1, 1), (2, 1), (3, 1), (4, 1), (5, 1), (6, 1), (7, 1), (8, 1), (9, 1), (10, 1), (11, 1), (12, 1), (13, 1), (14, 1), (15, 3), (16, 1), (17, 1), (18, 1)] (by kernel_rfl) ?_
    have Cb1 := Mem.cell HM4.out 0 rfl
    refine wpS_this [0, 1] rfl (by kernel_rfl) (by simp only [pickL, nthL, List.cons_append, List.nil_append]; rfl) ?_
    repeat (go_big_quiet_step (fail))
    refine wpQuiet_nil ?_
    clear Cb1
    refine wpS_read (i := 2) (d := some 5) rfl (by rfl) (run_eqEb (p := (e1, e2)) (q := (0, 0)) gz rfl rfl rfl) rfl ?_
    simp only [Act.put, List.setIfInBounds_toArray, List.set_cons_succ, List.set_cons_zero]
    have Cb1 := Mem.cell HM4.out 0 rfl
    refine wpS_this [3, 4, 5, 6, 7, 8, 9, 10, 11, 12, 13, 14] rfl (by kernel_rfl) (by simp only [pickL, nthL, List.cons_append, List.nil_append]; rfl) ?_
    repeat (go_big_quiet_step (fail))
    refine wpQuiet_nil ?_
    clear Cb1
    refine wpS_skip (i := 15) (d := some 18) rfl (by rfl) rfl ?_
    simp only [Act.put, List.setIfInBounds_toArray, List.set_cons_succ, List.set_cons_zero]
    refine wpS_this [16, 17, 18] rfl (by kernel_rfl) (by simp only [pickL, nthL, List.cons_append, List.nil_append]; rfl) ?_
    repeat (go_big_quiet_step (fail))
    refine wpQuiet_nil ?_
    refine wpS_nil ?_
    refine then_normal ?_
    refine wp_ret ?_
    refine bodyPost_ret (results_tmp rfl _ _ _) rfl ?_
    rw [hc.out]
    exact does_ret (Mem.only (M := []) HM4.out [] rfl) rfl rfl
  · have gz : decide (((e1, e2) : En) = ((0, 0) : En)) = false := decide_eq_false (fun h => hz ⟨congrArg Prod.fst h, congrArg Prod.snd h⟩)
    have ga : decide (1 ≤ e1) = true := decide_eq_true (by omega)
    have gb : decide (e1 ≤ 1000000) = false := decide_eq_false (by omega)
    have hc : Hid (mayE (e1, e2) = false) := Lib.hid (by refine decide_eq_false ?_; dsimp only; omega)
    clear hz
    refine wp_region_N [(0, 1), (1, 1), (2, 1), (3, 1), (4, 1), (5, 1), (6, 1), (7, 1), (8, 1), (9, 1), (10, 1), (11, 1), (12, 1), (13, 1), (14, 1), (15, 3), (16, 1), (17, 1), (18, 1)] (by kernel_rfl) ?_
    have Cb1 := Mem.cell HM4.out 0 rfl
    refine wpS_this [0, 1] rfl (by kernel_rfl) (by simp only [pickL, nthL, List.cons_append, List.nil_append]; rfl) ?_
    repeat (go_big_quiet_step (fail))
    refine wpQuiet_nil ?_
    clear Cb1
    refine wpS_read (i := 2) (d := some 5) rfl (by rfl) (run_eqEb (p := (e1, e2)) (q := (0, 0)) gz rfl rfl rfl) rfl ?_
    simp only [Act.put, List.setIfInBounds_toArray, List.set_cons_succ, List.set_cons_zero]
    have Cb1 := Mem.cell HM4.out 0 rfl
    refine wpS_this [3, 4, 5, 6, 7, 8, 9, 10, 11, 12, 13, 14] rfl (by kernel_rfl) (by simp only [pickL, nthL, List.cons_append, List.nil_append]; rfl) ?_
    repeat (go_big_quiet_step (fail))
    refine wpQuiet_nil ?_
    clear Cb1
    refine wpS_skip (i := 15) (d := some 18) rfl (by rfl) rfl ?_
    simp only [Act.put, List.setIfInBounds_toArray, List.set_cons_succ, List.set_cons_zero]
    refine wpS_this [16, 17, 18] rfl (by kernel_rfl) (by simp only [pickL, nthL, List.cons_append, List.nil_append]; rfl) ?_
    repeat (go_big_quiet_step (fail))
    refine wpQuiet_nil ?_
    refine wpS_nil ?_
    refine then_normal ?_
    refine wp_ret ?_
    refine bodyPost_ret (results_tmp rfl _ _ _) rfl ?_
    rw [hc.out]
    exact does_ret (Mem.only (M := []) HM4.out [] rfl) rfl rfl
  · have gz : decide (((e1, e2) : En) = ((0, 0) : En)) = false := decide_eq_false (fun h => hz ⟨congrArg Prod.fst h, congrArg Prod.snd h⟩)
    have ga : decide (1 ≤ e1) = true := decide_eq_true (by omega)
    have gb : decide (e1 ≤ 1000000) = true := decide_eq_true (by omega)
    have hc : Hid (mayE (e1, e2) = nodeE e2) := Lib.hid (by unfold mayE nodeE; rw [Bool.eq_iff_iff, decide_eq_true_iff, decide_eq_true_iff]; dsimp only; omega)
    clear hz
    refine wp_region_N [(0, 1), (1, 1), (2, 1), (3, 1), (4, 1), (5, 1), (6, 1), (7, 1), (8, 1), (9, 1), (10, 1), (11, 1), (12, 1), (13, 1), (14, 1), (15, 3), (16, 1), (17, 1), (18, 1)] (by kernel_rfl) ?_
    have Cb1 := Mem.cell HM4.out 0 rfl
    refine wpS_this [0, 1] rfl (by kernel_rfl) (by simp only [pickL, nthL, List.cons_append, List.nil_append]; rfl) ?_
    repeat (go_big_quiet_step (fail))
    refine wpQuiet_nil ?_
    clear Cb1
    refine wpS_read (i := 2) (d := some 5) rfl (by rfl) (run_eqEb (p := (e1, e2)) (q := (0, 0)) gz rfl rfl rfl) rfl ?_
    simp only [Act.put, List.setIfInBounds_toArray, List.set_cons_succ, List.set_cons_zero]
    have Cb1 := Mem.cell HM4.out 0 rfl
    refine wpS_this [3, 4, 5, 6, 7, 8, 9, 10, 11, 12, 13, 14] rfl (by kernel_rfl) (by simp only [pickL, nthL, List.cons_append, List.nil_append]; rfl) ?_
    repeat (go_big_quiet_step (fail))
    refine wpQuiet_nil ?_
    clear Cb1
    refine wpS_does1 (i := 15) (d := some 18) (rem := [_]) (out := [_]) rfl (by rfl) rfl Try.call70 (rnode_d e2) rfl HM4.out [] rfl covS_nil rfl rfl ?_
    rintro W6 hm5 -
    have HM7 := Lib.hid hm5
    clear hm5
    simp only [Act.put, List.setIfInBounds_toArray, List.set_cons_succ, List.set_cons_zero]
    refine wpS_this [16, 17, 18] rfl (by kernel_rfl) (by simp only [pickL, nthL, List.cons_append, List.nil_append]; rfl) ?_
    repeat (go_big_quiet_step (fail))
    refine wpQuiet_nil ?_
    refine wpS_nil ?_
    refine then_normal ?_
    refine wp_ret ?_
    refine bodyPost_ret (results_tmp rfl _ _ _) rfl ?_
    rw [hc.out]
    exact does_ret (Mem.only (M := []) HM7.out [] rfl) rfl rfl
end
section
open Go Go.RowKit Go.BigFrame
theorem all_next {p : Nat → Prop} {k : Nat} (h : ∀ j, j < k → p j) (hk : p k) : ∀ j, j < k + 1 → p j := fun j hj => by
  rcases Nat.lt_or_eq_of_le (Nat.le_of_lt_succ hj) with h1 | rfl
  · exact h j h1
  · exact hk
theorem mayR_noS {r : Rg} {k : Nat} (hk : k < 8) (h : statB (r.s k) = false) : mayR r = false := by
  unfold mayR
  rw [Bool.and_eq_false_iff]
  refine .inl ?_
  rw [← Bool.not_eq_true, all8]
  intro h1
  rw [h1 k hk] at h
  cases h
theorem mayR_noE {r : Rg} {k : Nat} (hk : k < 16) (h : mayE (r.e k) = false) : mayR r = false := by
  unfold mayR
  rw [Bool.and_eq_false_iff, Bool.and_eq_false_iff]
  refine .inr (.inl ?_)
  rw [← Bool.not_eq_true, all16]
  intro h1
  rw [h1 k hk] at h
  cases h
theorem mayR_p {r : Rg} (h1 : ∀ j, j < 8 → statB (r.s j) = true) (h2 : ∀ j, j < 16 → mayE (r.e j) = true) : mayR r = mayP r.p := by
  unfold mayR
  rw [all8.2 h1, all16.2 h2]
  rfl
set_option maxHeartbeats 4000000 in
set_option maxRecDepth 100000 in
theorem rsame_d (R : At) (va : Value) (a : Rg) (ha : Reads elemI R va a.p.2.2) (la : a.p.2.2.length ≤ 1000) (vb : Value) (b : Rg) (hb : Reads elemI R vb b.p.2.2) (lb : b.p.2.2.length ≤ 1000) : Does Try.prog 42 #[rgV a va, rgV b vb] [R] (.bool (sameR a b)) [R] := by
  intro w H hp
  have HM0 := Lib.hid (mem_refl hp)
  clear hp
  obtain ⟨pa, ca, rfl⟩ := row_form (Mem.src HM0.out 0 rfl ha)
  obtain ⟨pb, cb, rfl⟩ := row_form (Mem.src HM0.out 0 rfl hb)
  go_enter Try.func42, Try.ntmps42
  refine wp_seq ?_
  refine wp_region_N [(0, 3), (1, 3), (2, 1)] (by kernel_rfl) ?_
  refine wpS_boxA (i := 0) (dd := 2) rfl (by rfl) rfl rfl HM0.out covS_nil rfl ?_
  rintro b3 W2 hm1 -
  have HM4 := Lib.hid hm1
  clear hm1
  simp only [Act.put, List.setIfInBounds_toArray, List.set_cons_succ, List.set_cons_zero]
  refine wpS_boxA (i := 1) (dd := 3) rfl (by rfl) rfl rfl HM4.out covS_nil rfl ?_
  rintro b7 W6 hm5 -
  have HM8 := Lib.hid hm5
  clear hm5
  simp only [Act.put, List.setIfInBounds_toArray, List.set_cons_succ, List.set_cons_zero]
  refine wpS_this [2] rfl (by kernel_rfl) (by simp only [pickL, nthL, List.cons_append, List.nil_append]; rfl) ?_
  repeat (go_big_quiet_step (fail))
  refine wpQuiet_nil ?_
  refine wpS_nil ?_
  refine then_normal ?_
  refine wp_seq ?_
  rcases (show ¬ tab8 a.s = tab8 b.s ∨ (tab8 a.s = tab8 b.s ∧ ¬ tab16 a.e = tab16 b.e) ∨ (tab8 a.s = tab8 b.s ∧ tab16 a.e = tab16 b.e) from by by_cases k1 : tab8 a.s = tab8 b.s <;> by_cases k2 : tab16 a.e = tab16 b.e <;> simp [k1, k2]) with hs | ⟨hs, he⟩ | ⟨hs, he⟩
  · have gs := decide_eq_false hs
    have hc : Hid (sameR a b = false) := Lib.hid (by unfold sameR; rw [gs]; rfl)
    clear hs
    refine wp_region_N [(0, 1), (1, 1), (2, 1), (3, 1), (4, 1), (5, 1), (6, 1), (7, 1), (8, 1), (9, 1), (10, 1), (11, 1), (12, 1), (13, 1), (14, 1), (15, 1), (16, 1), (17, 3), (18, 1), (19, 1), (20, 1)] (by kernel_rfl) ?_
    refine wpS_this [0] rfl (by kernel_rfl) (by simp only [pickL, nthL, List.cons_append, List.nil_append]; rfl) ?_
    repeat (go_big_quiet_step (fail))
    refine wpQuiet_nil ?_
    refine wpS_loadA (i := 1) (d := some 6) (cells := stC (a).s) rfl (by rfl) rfl rfl (HM8.out.sub 1 rfl (rgC_st)) Try.underlying29 rfl (by kernel_rfl) rfl ?_
    simp only [Act.put, List.setIfInBounds_toArray, List.set_cons_succ, List.set_cons_zero]
    refine wpS_this [2] rfl (by kernel_rfl) (by simp only [pickL, nthL, List.cons_append, List.nil_append]; rfl) ?_
    repeat (go_big_quiet_step (fail))
    refine wpQuiet_nil ?_
    refine wpS_loadA (i := 3) (d := some 8) (cells := stC (b).s) rfl (by rfl) rfl rfl (HM8.out.sub 0 rfl (rgC_st)) Try.underlying29 rfl (by kernel_rfl) rfl ?_
    simp only [Act.put, List.setIfInBounds_toArray, List.set_cons_succ, List.set_cons_zero]
    refine wpS_read (i := 4) (d := some 9) rfl (by rfl) (run_eqSt (f := a.s) (g := b.s) (gs) rfl rfl rfl) rfl ?_
    simp only [Act.put, List.setIfInBounds_toArray, List.set_cons_succ, List.set_cons_zero]
    refine wpS_this [5, 6] rfl (by kernel_rfl) (by simp only [pickL, nthL, List.cons_append, List.nil_append]; rfl) ?_
    repeat (go_big_quiet_step (fail))
    refine wpQuiet_nil ?_
    refine wpS_skip (i := 7) (d := some 12) rfl (by rfl) rfl ?_
    simp only [Act.put, List.setIfInBounds_toArray, List.set_cons_succ, List.set_cons_zero]
    refine wpS_this [8] rfl (by kernel_rfl) (by simp only [pickL, nthL, List.cons_append, List.nil_append]; rfl) ?_
    repeat (go_big_quiet_step (fail))
    refine wpQuiet_nil ?_
    refine wpS_skip (i := 9) (d := some 14) rfl (by rfl) rfl ?_
    simp only [Act.put, List.setIfInBounds_toArray, List.set_cons_succ, List.set_cons_zero]
    refine wpS_skip (i := 10) (d := some 15) rfl (by rfl) rfl ?_
    simp only [Act.put, List.setIfInBounds_toArray, List.set_cons_succ, List.set_cons_zero]
    refine wpS_this [11, 12, 13] rfl (by kernel_rfl) (by simp only [pickL, nthL, List.cons_append, List.nil_append]; rfl) ?_
    repeat (go_big_quiet_step (fail))
    refine wpQuiet_nil ?_
    refine wpS_skip (i := 14) (d := some 19) rfl (by rfl) rfl ?_
    simp only [Act.put, List.setIfInBounds_toArray, List.set_cons_succ, List.set_cons_zero]
    refine wpS_this [15] rfl (by kernel_rfl) (by simp only [pickL, nthL, List.cons_append, List.nil_append]; rfl) ?_
    repeat (go_big_quiet_step (fail))
    refine wpQuiet_nil ?_
    refine wpS_skip (i := 16) (d := some 21) rfl (by rfl) rfl ?_
    simp only [Act.put, List.setIfInBounds_toArray, List.set_cons_succ, List.set_cons_zero]
    refine wpS_skip (i := 17) (d := some 22) rfl (by rfl) rfl ?_
    simp only [Act.put, List.setIfInBounds_toArray, List.set_cons_succ, List.set_cons_zero]
    refine wpS_this [18, 19, 20] rfl (by kernel_rfl) (by simp only [pickL, nthL, List.cons_append, List.nil_append]; rfl) ?_
    repeat (go_big_quiet_step (fail))
    refine wpQuiet_nil ?_
    refine wpS_nil ?_
    refine then_normal ?_
    refine wp_ret ?_
    refine bodyPost_ret (results_tmp rfl _ _ _) rfl ?_
    rw [hc.out]
    exact does_ret (Mem.only (M := [_]) HM8.out [2] rfl) rfl rfl
  · have gs := decide_eq_true hs
    have ge := decide_eq_false he
    have hc : Hid (sameR a b = false) := Lib.hid (by unfold sameR; rw [gs, ge]; rfl)
    clear hs he
    refine wp_region_N [(0, 1), (1, 1), (2, 1), (3, 1), (4, 1), (5, 1), (6, 1), (7, 1), (8, 1), (9, 1), (10, 1), (11, 1), (12, 1), (13, 1), (14, 1), (15, 1), (16, 1), (17, 3), (18, 1), (19, 1), (20, 1)] (by kernel_rfl) ?_
    refine wpS_this [0] rfl (by kernel_rfl) (by simp only [pickL, nthL, List.cons_append, List.nil_append]; rfl) ?_
    repeat (go_big_quiet_step (fail))
    refine wpQuiet_nil ?_
    refine wpS_loadA (i := 1) (d := some 6) (cells := stC (a).s) rfl (by rfl) rfl rfl (HM8.out.sub 1 rfl (rgC_st)) Try.underlying29 rfl (by kernel_rfl) rfl ?_
    simp only [Act.put, List.setIfInBounds_toArray, List.set_cons_succ, List.set_cons_zero]
    refine wpS_this [2] rfl (by kernel_rfl) (by simp only [pickL, nthL, List.cons_append, List.nil_append]; rfl) ?_
    repeat (go_big_quiet_step (fail))
    refine wpQuiet_nil ?_
    refine wpS_loadA (i := 3) (d := some 8) (cells := stC (b).s) rfl (by rfl) rfl rfl (HM8.out.sub 0 rfl (rgC_st)) Try.underlying29 rfl (by kernel_rfl) rfl ?_
    simp only [Act.put, List.setIfInBounds_toArray, List.set_cons_succ, List.set_cons_zero]
    refine wpS_read (i := 4) (d := some 9) rfl (by rfl) (run_eqSt (f := a.s) (g := b.s) (gs) rfl rfl rfl) rfl ?_
    simp only [Act.put, List.setIfInBounds_toArray, List.set_cons_succ, List.set_cons_zero]
    refine wpS_this [5, 6] rfl (by kernel_rfl) (by simp only [pickL, nthL, List.cons_append, List.nil_append]; rfl) ?_
    repeat (go_big_quiet_step (fail))
    refine wpQuiet_nil ?_
    refine wpS_loadA (i := 7) (d := some 12) (cells := enC (a).e) rfl (by rfl) rfl rfl (HM8.out.sub 1 rfl (rgC_en)) Try.underlying39 rfl (by kernel_rfl) rfl ?_
    simp only [Act.put, List.setIfInBounds_toArray, List.set_cons_succ, List.set_cons_zero]
    refine wpS_this [8] rfl (by kernel_rfl) (by simp only [pickL, nthL, List.cons_append, List.nil_append]; rfl) ?_
    repeat (go_big_quiet_step (fail))
    refine wpQuiet_nil ?_
    refine wpS_loadA (i := 9) (d := some 14) (cells := enC (b).e) rfl (by rfl) rfl rfl (HM8.out.sub 0 rfl (rgC_en)) Try.underlying39 rfl (by kernel_rfl) rfl ?_
    simp only [Act.put, List.setIfInBounds_toArray, List.set_cons_succ, List.set_cons_zero]
    refine wpS_read (i := 10) (d := some 15) rfl (by rfl) (run_eqEn (f := a.e) (g := b.e) (ge) rfl rfl rfl) rfl ?_
    simp only [Act.put, List.setIfInBounds_toArray, List.set_cons_succ, List.set_cons_zero]
    refine wpS_this [11, 12, 13] rfl (by kernel_rfl) (by simp only [pickL, nthL, List.cons_append, List.nil_append]; rfl) ?_
    repeat (go_big_quiet_step (fail))
    refine wpQuiet_nil ?_
    refine wpS_skip (i := 14) (d := some 19) rfl (by rfl) rfl ?_
    simp only [Act.put, List.setIfInBounds_toArray, List.set_cons_succ, List.set_cons_zero]
    refine wpS_this [15] rfl (by kernel_rfl) (by simp only [pickL, nthL, List.cons_append, List.nil_append]; rfl) ?_
    repeat (go_big_quiet_step (fail))
    refine wpQuiet_nil ?_
    refine wpS_skip (i := 16) (d := some 21) rfl (by rfl) rfl ?_
    simp only [Act.put, List.setIfInBounds_toArray, List.set_cons_succ, List.set_cons_zero]
    refine wpS_skip (i := 17) (d := some 22) rfl (by rfl) rfl ?_
    simp only [Act.put, List.setIfInBounds_toArray, List.set_cons_succ, List.set_cons_zero]
    refine wpS_this [18, 19, 20] rfl (by kernel_rfl) (by simp only [pickL, nthL, List.cons_append, List.nil_append]; rfl) ?_
    repeat (go_big_quiet_step (fail))
    refine wpQuiet_nil ?_
    refine wpS_nil ?_
    refine then_normal ?_
    refine wp_ret ?_
    refine bodyPost_ret (results_tmp rfl _ _ _) rfl ?_
    rw [hc.out]
    exact does_ret (Mem.only (M := [_]) HM8.out [2] rfl) rfl rfl
  · have gs := decide_eq_true hs
    have ge := decide_eq_true he
    have hc : Hid (sameR a b = (cmpP a.p b.p == 0)) := Lib.hid (by unfold sameR; rw [gs, ge]; rfl)
    clear hs he
    refine wp_region_N [(0, 1), (1, 1), (2, 1), (3, 1), (4, 1), (5, 1), (6, 1), (7, 1), (8, 1), (9, 1), (10, 1), (11, 1), (12, 1), (13, 1), (14, 1), (15, 1), (16, 1), (17, 3), (18, 1), (19, 1), (20, 1)] (by kernel_rfl) ?_
    refine wpS_this [0] rfl (by kernel_rfl) (by simp only [pickL, nthL, List.cons_append, List.nil_append]; rfl) ?_
    repeat (go_big_quiet_step (fail))
    refine wpQuiet_nil ?_
    refine wpS_loadA (i := 1) (d := some 6) (cells := stC (a).s) rfl (by rfl) rfl rfl (HM8.out.sub 1 rfl (rgC_st)) Try.underlying29 rfl (by kernel_rfl) rfl ?_
    simp only [Act.put, List.setIfInBounds_toArray, List.set_cons_succ, List.set_cons_zero]
    refine wpS_this [2] rfl (by kernel_rfl) (by simp only [pickL, nthL, List.cons_append, List.nil_append]; rfl) ?_
    repeat (go_big_quiet_step (fail))
    refine wpQuiet_nil ?_
    refine wpS_loadA (i := 3) (d := some 8) (cells := stC (b).s) rfl (by rfl) rfl rfl (HM8.out.sub 0 rfl (rgC_st)) Try.underlying29 rfl (by kernel_rfl) rfl ?_
    simp only [Act.put, List.setIfInBounds_toArray, List.set_cons_succ, List.set_cons_zero]
    refine wpS_read (i := 4) (d := some 9) rfl (by rfl) (run_eqSt (f := a.s) (g := b.s) (gs) rfl rfl rfl) rfl ?_
    simp only [Act.put, List.setIfInBounds_toArray, List.set_cons_succ, List.set_cons_zero]
    refine wpS_this [5, 6] rfl (by kernel_rfl) (by simp only [pickL, nthL, List.cons_append, List.nil_append]; rfl) ?_
    repeat (go_big_quiet_step (fail))
    refine wpQuiet_nil ?_
    refine wpS_loadA (i := 7) (d := some 12) (cells := enC (a).e) rfl (by rfl) rfl rfl (HM8.out.sub 1 rfl (rgC_en)) Try.underlying39 rfl (by kernel_rfl) rfl ?_
    simp only [Act.put, List.setIfInBounds_toArray, List.set_cons_succ, List.set_cons_zero]
    refine wpS_this [8] rfl (by kernel_rfl) (by simp only [pickL, nthL, List.cons_append, List.nil_append]; rfl) ?_
    repeat (go_big_quiet_step (fail))
    refine wpQuiet_nil ?_
    refine wpS_loadA (i := 9) (d := some 14) (cells := enC (b).e) rfl (by rfl) rfl rfl (HM8.out.sub 0 rfl (rgC_en)) Try.underlying39 rfl (by kernel_rfl) rfl ?_
    simp only [Act.put, List.setIfInBounds_toArray, List.set_cons_succ, List.set_cons_zero]
    refine wpS_read (i := 10) (d := some 15) rfl (by rfl) (run_eqEn (f := a.e) (g := b.e) (ge) rfl rfl rfl) rfl ?_
    simp only [Act.put, List.setIfInBounds_toArray, List.set_cons_succ, List.set_cons_zero]
    refine wpS_this [11, 12, 13] rfl (by kernel_rfl) (by simp only [pickL, nthL, List.cons_append, List.nil_append]; rfl) ?_
    repeat (go_big_quiet_step (fail))
    refine wpQuiet_nil ?_
    refine wpS_loadA (i := 14) (d := some 19) (cells := plC (a).p (.slice pa a.p.2.2.length ca)) rfl (by rfl) rfl rfl (HM8.out.sub 1 rfl (rgC_pl)) Try.underlying36 rfl (by kernel_rfl) rfl ?_
    dsimp only [plC]
    simp only [Act.put, List.setIfInBounds_toArray, List.set_cons_succ, List.set_cons_zero]
    refine wpS_this [15] rfl (by kernel_rfl) (by simp only [pickL, nthL, List.cons_append, List.nil_append]; rfl) ?_
    repeat (go_big_quiet_step (fail))
    refine wpQuiet_nil ?_
    refine wpS_loadA (i := 16) (d := some 21) (cells := plC (b).p (.slice pb b.p.2.2.length cb)) rfl (by rfl) rfl rfl (HM8.out.sub 0 rfl (rgC_pl)) Try.underlying36 rfl (by kernel_rfl) rfl ?_
    dsimp only [plC]
    simp only [Act.put, List.setIfInBounds_toArray, List.set_cons_succ, List.set_cons_zero]
    refine wpS_does2 (i := 17) (d := some 22) (rem := [_, _]) (out := [_, _, _]) rfl (by rfl) rfl Try.call60 (rcompare_d R _ a.p.1 a.p.2.1 a.p.2.2 ha la _ b.p.1 b.p.2.1 b.p.2.2 hb lb) rfl rfl HM8.out [2] rfl covS_nil rfl rfl ?_
    rintro W10 hm9 -
    have HM11 := Lib.hid hm9
    clear hm9
    simp only [Act.put, List.setIfInBounds_toArray, List.set_cons_succ, List.set_cons_zero]
    refine wpS_this [18, 19, 20] rfl (by kernel_rfl) (by simp only [pickL, nthL, List.cons_append, List.nil_append]; rfl) ?_
    repeat (go_big_quiet_step (fail))
    refine wpQuiet_nil ?_
    refine wpS_nil ?_
    refine then_normal ?_
    refine wp_ret ?_
    refine bodyPost_ret (results_tmp rfl _ _ _) rfl ?_
    rw [hc.out]
    exact does_ret (Mem.only (M := [_]) HM11.out [0] rfl) rfl rfl
set_option maxHeartbeats 4000000 in
set_option maxRecDepth 100000 in
theorem rmayR_d (R : At) (va : Value) (a : Rg) (ha : Reads elemI R va a.p.2.2) (la : a.p.2.2.length ≤ 1000) : Does Try.prog 36 #[rgV a va] [R] (.bool (mayR a)) [R] := by
  intro w H hp
  have HM0 := Lib.hid (mem_refl hp)
  clear hp
  obtain ⟨pa, ca, rfl⟩ := row_form (Mem.src HM0.out 0 rfl ha)
  go_enter Try.func36, Try.ntmps36
  refine wp_seq ?_
  refine wp_region_N [(0, 3), (1, 1)] (by kernel_rfl) ?_
  refine wpS_boxA (i := 0) (dd := 1) rfl (by rfl) rfl rfl HM0.out covS_nil rfl ?_
  rintro b3 W2 hm1 -
  have HM4 := Lib.hid hm1
  clear hm1
  simp only [Act.put, List.setIfInBounds_toArray, List.set_cons_succ, List.set_cons_zero]
  refine wpS_this [1] rfl (by kernel_rfl) (by simp only [pickL, nthL, List.cons_append, List.nil_append]; rfl) ?_
  repeat (go_big_quiet_step (fail))
  refine wpQuiet_nil ?_
  refine wpS_nil ?_
  refine then_normal ?_
  refine wp_seq ?_
  refine wp_seq ?_
  refine wp_region_N [(0, 1), (1, 1), (2, 1)] (by kernel_rfl) ?_
  refine wpS_this [0] rfl (by kernel_rfl) (by simp only [pickL, nthL, List.cons_append, List.nil_append]; rfl) ?_
  repeat (go_big_quiet_step (fail))
  refine wpQuiet_nil ?_
  refine wpS_loadA (i := 1) (d := some 8) (cells := stC (a).s) rfl (by rfl) rfl rfl (HM4.out.sub 0 rfl (rgC_st)) Try.underlying29 rfl (by kernel_rfl) rfl ?_
  simp only [Act.put, List.setIfInBounds_toArray, List.set_cons_succ, List.set_cons_zero]
  refine wpS_this [2] rfl (by kernel_rfl) (by simp only [pickL, nthL, List.cons_append, List.nil_append]; rfl) ?_
  repeat (go_big_quiet_step (fail))
  refine wpQuiet_nil ?_
  refine wpS_nil ?_
  refine then_normal ?_
  refine wp_block ?_
  refine wp_loop_F [2, 4, 9, 10, 11, 12, 13, 14, 15, 16, 17, 18] (fun n vs W' => ∃ k : Nat, n = 8 - k ∧ vs 9 = .int .i64 (k : Int) ∧ k ≤ 8 ∧ (∀ j, j < k → statB (a.s j) = true) ∧ Mem [boxT b3 (.cells (rgC a (.slice pa a.p.2.2.length ca)).toArray 41 (0, 0)), R] H w W') (n0 := 8) ?_ ?_
  · exact ⟨0, rfl, rfl, Nat.zero_le _, fun j h => by omega, (Mem.only (M := [_, _]) HM4.out [0, 0] rfl)⟩
  rintro n vs W' ⟨k, rfl, e9, hk, hf', hm⟩
  simp only [putAll, List.map_cons, List.map_nil, Act.put, List.setIfInBounds_toArray, List.set_cons_succ, List.set_cons_zero]
  rw [e9]
  clear e9
  have hf := Lib.hid hf'
  clear hf'
  have HM5 := Lib.hid hm
  clear hm
  refine wp_seq ?_
  refine wp_region_N [(0, 1)] (by kernel_rfl) ?_
  refine wpS_this [0] rfl (by kernel_rfl) (by simp only [pickL, nthL, List.cons_append, List.nil_append]; rfl) ?_
  repeat (go_big_quiet_step (fail))
  refine wpQuiet_nil ?_
  refine wpS_nil ?_
  refine then_normal ?_
  refine wp_seq ?_
  refine wp_cond_split rfl (fun h6 => ?_) (fun h6 => ?_)
  · have hk1 : k + 1 ≤ 8 := by have : (k : Int) < 8 := (by simpa using h6); omega
    clear h6
    refine wp_skip ?_
    refine then_normal ?_
    refine wp_seq ?_
    refine wp_block ?_
    refine wp_seq ?_
    refine wp_region_N [(0, 1), (1, 1)] (by kernel_rfl) ?_
    refine wpS_read (i := 0) (d := some 11) rfl (by rfl) (run_indexSt (f := a.s) (j := k) (by omega) rfl rfl rfl) rfl ?_
    simp only [Act.put, List.setIfInBounds_toArray, List.set_cons_succ, List.set_cons_zero]
    refine wpS_this [1] rfl (by kernel_rfl) (by simp only [pickL, nthL, List.cons_append, List.nil_append]; rfl) ?_
    repeat (go_big_quiet_step (fail))
    refine wpQuiet_nil ?_
    refine wpS_nil ?_
    refine then_normal ?_
    refine wp_seq ?_
    rcases (show a.s k < 0 ∨ (¬ a.s k < 0 ∧ 4 < a.s k) ∨ (¬ a.s k < 0 ∧ ¬ 4 < a.s k) from by omega) with h1 | ⟨h1, h2⟩ | ⟨h1, h2⟩
    · have g1 := decide_eq_true h1
      have hst : Hid (statB (a.s k) = false) := Lib.hid (decide_eq_false (by omega))
      clear h1
      refine wp_region_N [(0, 1), (1, 1), (2, 1), (3, 1), (4, 1), (5, 1)] (by kernel_rfl) ?_
      refine wpS_this [0, 1, 2, 3, 4, 5] rfl (by kernel_rfl) (by simp only [pickL, nthL, List.cons_append, List.nil_append]; rfl) ?_
      repeat (go_big_quiet_step (fail))
      refine wpQuiet_nil ?_
      refine wpS_nil ?_
      refine then_normal ?_
      refine wp_cond_true rfl ?_
      refine wp_seq ?_
      refine wp_region_N [(0, 1)] (by kernel_rfl) ?_
      refine wpS_this [0] rfl (by kernel_rfl) (by simp only [pickL, nthL, List.cons_append, List.nil_append]; rfl) ?_
      repeat (go_big_quiet_step (fail))
      refine wpQuiet_nil ?_
      refine wpS_nil ?_
      refine then_normal ?_
      refine wp_ret ?_
      refine block_ret (then_ret (then_ret (block_ret (then_ret ?_))))
      refine bodyPost_ret (results_tmp rfl _ _ _) rfl ?_
      rw [mayR_noS (by omega) hst.out]
      exact does_ret (Mem.only (M := [_]) HM5.out [1] rfl) rfl rfl
    · have g1 := decide_eq_false h1
      have g2 := decide_eq_true h2
      have hst : Hid (statB (a.s k) = false) := Lib.hid (decide_eq_false (by omega))
      clear h1 h2
      refine wp_region_N [(0, 1), (1, 1), (2, 1), (3, 1), (4, 1), (5, 1)] (by kernel_rfl) ?_
      refine wpS_this [0, 1, 2, 3, 4, 5] rfl (by kernel_rfl) (by simp only [pickL, nthL, List.cons_append, List.nil_append]; rfl) ?_
      repeat (go_big_quiet_step (fail))
      refine wpQuiet_nil ?_
      refine wpS_nil ?_
      refine then_normal ?_
      refine wp_cond_true rfl ?_
      refine wp_seq ?_
      refine wp_region_N [(0, 1)] (by kernel_rfl) ?_
      refine wpS_this [0] rfl (by kernel_rfl) (by simp only [pickL, nthL, List.cons_append, List.nil_append]; rfl) ?_
      repeat (go_big_quiet_step (fail))
      refine wpQuiet_nil ?_
      refine wpS_nil ?_
      refine then_normal ?_
      refine wp_ret ?_
      refine block_ret (then_ret (then_ret (block_ret (then_ret ?_))))
      refine bodyPost_ret (results_tmp rfl _ _ _) rfl ?_
      rw [mayR_noS (by omega) hst.out]
      exact does_ret (Mem.only (M := [_]) HM5.out [1] rfl) rfl rfl
    · have g1 := decide_eq_false h1
      have g2 := decide_eq_false h2
      have hst : Hid (statB (a.s k) = true) := Lib.hid (decide_eq_true (by omega))
      clear h1 h2
      refine wp_region_N [(0, 1), (1, 1), (2, 1), (3, 1), (4, 1), (5, 1)] (by kernel_rfl) ?_
      refine wpS_this [0, 1, 2, 3, 4, 5] rfl (by kernel_rfl) (by simp only [pickL, nthL, List.cons_append, List.nil_append]; rfl) ?_
      repeat (go_big_quiet_step (fail))
      refine wpQuiet_nil ?_
      refine wpS_nil ?_
      refine then_normal ?_
      refine wp_cond_false rfl ?_
      refine wp_skip ?_
      refine block_normal ?_
      refine then_normal ?_
      refine wp_region_N [(0, 1), (1, 1)] (by kernel_rfl) ?_
      refine wpS_this [0, 1] rfl (by kernel_rfl) (by simp only [pickL, nthL, List.cons_append, List.nil_append]; rfl) ?_
      repeat (go_big_quiet_step (fail))
      refine wpQuiet_nil ?_
      refine wpS_nil ?_
      refine then_normal ?_
      refine ⟨by kernel_rfl, ?_⟩
      refine ⟨8 - (k + 1), by omega, k + 1, rfl, rfl, hk1, all_next hf.out hst.out, (Mem.only (M := [_, _]) HM5.out [0, 0] rfl)⟩
  · have hk8 : Hid (8 ≤ k) := Lib.hid (by have : ¬ (k : Int) < 8 := (by simpa using h6); omega)
    clear h6
    refine wp_exit ?_
    refine then_exit (then_exit (block_exit ?_))
    refine then_normal ?_
    refine wp_seq ?_
    refine wp_seq ?_
    refine wp_region_N [(0, 1), (1, 1), (2, 1)] (by kernel_rfl) ?_
    refine wpS_this [0] rfl (by kernel_rfl) (by simp only [pickL, nthL, List.cons_append, List.nil_append]; rfl) ?_
    repeat (go_big_quiet_step (fail))
    refine wpQuiet_nil ?_
    refine wpS_loadA (i := 1) (d := some 20) (cells := enC (a).e) rfl (by rfl) rfl rfl (HM5.out.sub 0 rfl (rgC_en)) Try.underlying39 rfl (by kernel_rfl) rfl ?_
    simp only [Act.put, List.setIfInBounds_toArray, List.set_cons_succ, List.set_cons_zero]
    refine wpS_this [2] rfl (by kernel_rfl) (by simp only [pickL, nthL, List.cons_append, List.nil_append]; rfl) ?_
    repeat (go_big_quiet_step (fail))
    refine wpQuiet_nil ?_
    refine wpS_nil ?_
    refine then_normal ?_
    refine wp_block ?_
    refine wp_loop_F [2, 6, 21, 22, 23, 24, 25, 26, 27] (fun n ws W' => ∃ i : Nat, n = 16 - i ∧ ws 21 = .int .i64 (i : Int) ∧ i ≤ 16 ∧ (∀ j, j < i → mayE (a.e j) = true) ∧ Mem [boxT b3 (.cells (rgC a (.slice pa a.p.2.2.length ca)).toArray 41 (0, 0)), R] H w W') (n0 := 16) ?_ ?_
    · exact ⟨0, rfl, rfl, Nat.zero_le _, fun j h => by omega, (Mem.only (M := [_, _]) HM5.out [0, 0] rfl)⟩
    rintro n ws W' ⟨i, rfl, e21, hi, hg', hm2⟩
    simp only [putAll, List.map_cons, List.map_nil, Act.put, List.setIfInBounds_toArray, List.set_cons_succ, List.set_cons_zero]
    rw [e21]
    clear e21
    have hg := Lib.hid hg'
    clear hg'
    have HM7 := Lib.hid hm2
    clear hm2
    refine wp_seq ?_
    refine wp_region_N [(0, 1)] (by kernel_rfl) ?_
    refine wpS_this [0] rfl (by kernel_rfl) (by simp only [pickL, nthL, List.cons_append, List.nil_append]; rfl) ?_
    repeat (go_big_quiet_step (fail))
    refine wpQuiet_nil ?_
    refine wpS_nil ?_
    refine then_normal ?_
    refine wp_seq ?_
    refine wp_cond_split rfl (fun h8 => ?_) (fun h8 => ?_)
    · have hi1 : i + 1 ≤ 16 := by have : (i : Int) < 16 := (by simpa using h8); omega
      clear h8
      refine wp_skip ?_
      refine then_normal ?_
      refine wp_seq ?_
      refine wp_block ?_
      refine wp_seq ?_
      refine wp_region_N [(0, 1), (1, 3), (2, 3)] (by kernel_rfl) ?_
      refine wpS_read (i := 0) (d := some 23) rfl (by rfl) (run_indexEnt (f := a.e) (j := i) (by omega) rfl rfl rfl) rfl ?_
      simp only [Act.put, List.setIfInBounds_toArray, List.set_cons_succ, List.set_cons_zero]
      dsimp only [eV]
      refine wpS_alloc (i := 1) (dd := 6) (z := .agg #[.int .i64 0, .int .i64 0]) (cs := #[.int .i64 0, .int .i64 0]) rfl (by rfl) rfl (by kernel_rfl) rfl HM7.out covS_nil rfl ?_
      rintro b11 W10 hm9 -
      have HM12 := Lib.hid hm9
      clear hm9
      simp only [Act.put, List.setIfInBounds_toArray, List.set_cons_succ, List.set_cons_zero]
      refine wpS_storeA (i := 2) (L2 := [_, _]) (cs' := [_, _]) rfl (by rfl) rfl rfl rfl (by kernel_rfl) (by rfl) HM12.out 0 rfl rfl rfl rfl covS_nil rfl ?_
      rintro W14 hm13 -
      have HM15 := Lib.hid hm13
      clear hm13
      refine wpS_nil ?_
      refine then_normal ?_
      refine wp_seq ?_
      rcases Bool.eq_false_or_eq_true (mayE (a.e i)) with hmy | hmy
      · replace hmy := Lib.hid hmy
        refine wp_region_N [(0, 1), (1, 3), (2, 1)] (by kernel_rfl) ?_
        have Cb6 := Mem.cell HM15.out 0 rfl
        refine wpS_this [0] rfl (by kernel_rfl) (by simp only [pickL, nthL, List.cons_append, List.nil_append]; rfl) ?_
        repeat (go_big_quiet_step (fail))
        refine wpQuiet_nil ?_
        clear Cb6
        refine wpS_does1 (i := 1) (d := some 25) (rem := [_, _, _]) (out := [_, _, _]) rfl (by rfl) rfl Try.call53 (remay_d (a.e i).1 (a.e i).2) rfl HM15.out [] rfl covS_nil rfl rfl ?_
        rintro W17 hm16 -
        rw [show mayE ((a.e i).1, (a.e i).2) = mayE (a.e i) from rfl, hmy.out]
        have HM18 := Lib.hid hm16
        clear hm16
        simp only [Act.put, List.setIfInBounds_toArray, List.set_cons_succ, List.set_cons_zero]
        refine wpS_this [2] rfl (by kernel_rfl) (by simp only [pickL, nthL, List.cons_append, List.nil_append]; rfl) ?_
        repeat (go_big_quiet_step (fail))
        refine wpQuiet_nil ?_
        refine wpS_nil ?_
        refine then_normal ?_
        refine wp_cond_false rfl ?_
        refine wp_skip ?_
        refine block_normal ?_
        refine then_normal ?_
        refine wp_region_N [(0, 1), (1, 1)] (by kernel_rfl) ?_
        refine wpS_this [0, 1] rfl (by kernel_rfl) (by simp only [pickL, nthL, List.cons_append, List.nil_append]; rfl) ?_
        repeat (go_big_quiet_step (fail))
        refine wpQuiet_nil ?_
        refine wpS_nil ?_
        refine then_normal ?_
        refine ⟨by kernel_rfl, ?_⟩
        refine ⟨16 - (i + 1), by omega, i + 1, rfl, rfl, hi1, all_next hg.out hmy.out, (Mem.only (M := [_, _]) HM18.out [1, 1] rfl)⟩
      · replace hmy := Lib.hid hmy
        refine wp_region_N [(0, 1), (1, 3), (2, 1)] (by kernel_rfl) ?_
        have Cb6 := Mem.cell HM15.out 0 rfl
        refine wpS_this [0] rfl (by kernel_rfl) (by simp only [pickL, nthL, List.cons_append, List.nil_append]; rfl) ?_
        repeat (go_big_quiet_step (fail))
        refine wpQuiet_nil ?_
        clear Cb6
        refine wpS_does1 (i := 1) (d := some 25) (rem := [_, _, _]) (out := [_, _, _]) rfl (by rfl) rfl Try.call53 (remay_d (a.e i).1 (a.e i).2) rfl HM15.out [] rfl covS_nil rfl rfl ?_
        rintro W20 hm19 -
        rw [show mayE ((a.e i).1, (a.e i).2) = mayE (a.e i) from rfl, hmy.out]
        have HM21 := Lib.hid hm19
        clear hm19
        simp only [Act.put, List.setIfInBounds_toArray, List.set_cons_succ, List.set_cons_zero]
        refine wpS_this [2] rfl (by kernel_rfl) (by simp only [pickL, nthL, List.cons_append, List.nil_append]; rfl) ?_
        repeat (go_big_quiet_step (fail))
        refine wpQuiet_nil ?_
        refine wpS_nil ?_
        refine then_normal ?_
        refine wp_cond_true rfl ?_
        refine wp_seq ?_
        refine wp_region_N [(0, 1)] (by kernel_rfl) ?_
        refine wpS_this [0] rfl (by kernel_rfl) (by simp only [pickL, nthL, List.cons_append, List.nil_append]; rfl) ?_
        repeat (go_big_quiet_step (fail))
        refine wpQuiet_nil ?_
        refine wpS_nil ?_
        refine then_normal ?_
        refine wp_ret ?_
        refine block_ret (then_ret (then_ret (block_ret (then_ret ?_))))
        refine bodyPost_ret (results_tmp rfl _ _ _) rfl ?_
        rw [mayR_noE (by omega) hmy.out]
        exact does_ret (Mem.only (M := [_]) HM21.out [2] rfl) rfl rfl
    · have hk16 : Hid (16 ≤ i) := Lib.hid (by have : ¬ (i : Int) < 16 := (by simpa using h8); omega)
      clear h8
      refine wp_exit ?_
      refine then_exit (then_exit (block_exit ?_))
      refine then_normal ?_
      refine wp_seq ?_
      refine wp_region_N [(0, 1), (1, 1), (2, 3), (3, 1)] (by kernel_rfl) ?_
      refine wpS_this [0] rfl (by kernel_rfl) (by simp only [pickL, nthL, List.cons_append, List.nil_append]; rfl) ?_
      repeat (go_big_quiet_step (fail))
      refine wpQuiet_nil ?_
      refine wpS_loadA (i := 1) (d := some 29) (cells := plC (a).p (.slice pa a.p.2.2.length ca)) rfl (by rfl) rfl rfl (HM7.out.sub 0 rfl (rgC_pl)) Try.underlying36 rfl (by kernel_rfl) rfl ?_
      dsimp only [plC]
      simp only [Act.put, List.setIfInBounds_toArray, List.set_cons_succ, List.set_cons_zero]
      refine wpS_does1 (i := 2) (d := some 30) (rem := [_]) (out := [_, _]) rfl (by rfl) rfl Try.call54 (rmay_d R _ a.p.1 a.p.2.1 a.p.2.2 ha la) rfl HM7.out [1] rfl covS_nil rfl rfl ?_
      rintro W23 hm22 -
      have HM24 := Lib.hid hm22
      clear hm22
      simp only [Act.put, List.setIfInBounds_toArray, List.set_cons_succ, List.set_cons_zero]
      refine wpS_this [3] rfl (by kernel_rfl) (by simp only [pickL, nthL, List.cons_append, List.nil_append]; rfl) ?_
      repeat (go_big_quiet_step (fail))
      refine wpQuiet_nil ?_
      refine wpS_nil ?_
      refine then_normal ?_
      refine wp_ret ?_
      refine bodyPost_ret (results_tmp rfl _ _ _) rfl ?_
      rw [mayR_p (fun j hj => hf.out j (by have := hk8.out; omega)) (fun j hj => hg.out j (by have := hk16.out; omega))]
      exact does_ret (Mem.only (M := [_]) HM24.out [0] rfl) rfl rfl
end
section
open Go Go.RowKit Go.BigFrame
section
variable {ops : Array Oper} {S : Nat → Prop} {Q : Act → World → Prop} {a : Act} {W w : World} {H0 : Nat → Prop} {rest : List (Nat × Nat)} {i : Nat} {o : Oper} {L : List At} {d : Option Tmp}
theorem run_sliceSt {x : Operand} {b : Nat} (ho : o.op = .slice 29 x none none none) (hx : a.eval x = .pointer (some ⟨b, 0, none⟩)) : (execOp a.eval o).run Try.prog W = .ok (.value (.slice (some ⟨b, 0, none⟩) 8 8)) W := by
  have hu : (underlying 29).run Try.prog W = .ok (.array 8 3) W := by simp [underlying, Try.underlying29, go_sem]
  have hs := int_size W
  unfold execOp
  simp only [ho, hx, Option.map_none, Instr.sliceAt, Instr.sliceBounds, Instr.sureAddr, Sem.run_bind, Sem.run_pure, Result.andThen_ok, hu, hs]
  simp [addr_off, go_sem]
theorem run_sliceEnt {x : Operand} {b off : Nat} (ho : o.op = .slice 39 x none none none) (hx : a.eval x = .pointer (some ⟨b, off, none⟩)) : (execOp a.eval o).run Try.prog W = .ok (.value (.slice (some ⟨b, off, none⟩) 16 16)) W := by
  have hu : (underlying 39).run Try.prog W = .ok (.array 16 38) W := by simp [underlying, go_sem]
  have hs := ent_size W
  unfold execOp
  simp only [ho, hx, Option.map_none, Instr.sliceAt, Instr.sliceBounds, Instr.sureAddr, Sem.run_bind, Sem.run_pure, Result.andThen_ok, hu, hs]
  simp [addr_off, go_sem]
theorem run_addrSlI {x ix : Operand} {b n c j : Nat} (hj : j < n) (ho : o.op = .indexAddr 34 x ix) (hx : a.eval x = .slice (some ⟨b, 0, none⟩) n c) (hix : a.eval ix = .int .i64 (j : Int)) : (execOp a.eval o).run Try.prog W = .ok (.value (.pointer (some ⟨b, j, none⟩))) W := by
  have hu : (underlying 34).run Try.prog W = .ok (.slice 3) W := by simp [underlying, Try.underlying34, go_sem]
  have hs := int_size W
  unfold execOp
  simp only [ho, hx, hix, Instr.indexAt, asIntOf, Sem.run_bind, Sem.run_pure, Result.andThen_ok, hu]
  simp [hs, hj, addr_off, go_sem]
theorem run_addrSlE {x ix : Operand} {b off n c j : Nat} (hj : j < n) (ho : o.op = .indexAddr 84 x ix) (hx : a.eval x = .slice (some ⟨b, off, none⟩) n c) (hix : a.eval ix = .int .i64 (j : Int)) : (execOp a.eval o).run Try.prog W = .ok (.value (.pointer (some ⟨b, off + j * 2, none⟩))) W := by
  have hu : (underlying 84).run Try.prog W = .ok (.slice 38) W := by simp [underlying, Try.underlying84, go_sem]
  have hs := ent_size W
  unfold execOp
  simp only [ho, hx, hix, Instr.indexAt, asIntOf, Sem.run_bind, Sem.run_pure, Result.andThen_ok, hu]
  simp [hs, hj, addr_off, go_sem]
theorem wpS_func2 {P : Program} {fn : Fn} {x1 x2 : Operand} {v1 v2 : Value} (hi : ops[i]? = some o) (hw : Region.wanted o (yielded ops a.tmps) = true) (ho : o.op = .makeFunc fn #[] #[x1, x2]) (h1 : a.eval x1 = v1) (h2 : a.eval x2 = v2) (hd : o.dst = d) (h : wpS P ops S Q rest (a.put d (.func fn #[] #[v1, v2])) W) : wpS P ops S Q ((i, 0) :: rest) a W := wpS_func hi hw ho (by simp [h1, h2]) hd h
theorem wpS_func3 {P : Program} {fn : Fn} {x1 x2 x3 : Operand} {v1 v2 v3 : Value} (hi : ops[i]? = some o) (hw : Region.wanted o (yielded ops a.tmps) = true) (ho : o.op = .makeFunc fn #[] #[x1, x2, x3]) (h1 : a.eval x1 = v1) (h2 : a.eval x2 = v2) (h3 : a.eval x3 = v3) (hd : o.dst = d) (h : wpS P ops S Q rest (a.put d (.func fn #[] #[v1, v2, v3])) W) : wpS P ops S Q ((i, 0) :: rest) a W := wpS_func hi hw ho (by simp [h1, h2, h3]) hd h
end
theorem Does.toList {pr : Program} {f : FuncId} {args : Array Value} {v : Value} {pre : List At} (h : Does pr f args pre v pre) : Does pr f args [listT pre] v [listT pre] := fun W H hs => (h W H (emp_right hs)).mono fun _e _W' ⟨he, hr⟩ => ⟨he, SEnd.mono hr fun _ h => star_comm (starl_emp (Q := stars pre) h)⟩
def partB (p : Int) : Bool := decide (0 ≤ p ∧ p < 16)
def selN (p : Nat → Bool) (k : Nat) : List Int := ((List.range k).filter p).map fun i : Nat => (i : Int)
theorem selN_hit {p : Nat → Bool} {k : Nat} (h : p k = true) : selN p (k + 1) = selN p k ++ [(k : Int)] := by
  unfold selN
  rw [List.range_succ, List.filter_append, List.map_append]
  simp [h]
theorem selN_miss {p : Nat → Bool} {k : Nat} (h : p k = false) : selN p (k + 1) = selN p k := by
  unfold selN
  rw [List.range_succ, List.filter_append, List.map_append]
  simp [h]
theorem selN_len (p : Nat → Bool) (k : Nat) : (selN p k).length ≤ k := by
  unfold selN
  rw [List.length_map]
  exact Nat.le_trans (List.length_filter_le _ _) (by simp)
theorem all8_no {f : Nat → Int} {p : Int → Bool} {k : Nat} (hk : k < 8) (h : p (f k) = false) : (tab8 f).all p = false := by
  rw [← Bool.not_eq_true, all8]
  intro h1
  rw [h1 k hk] at h
  cases h
theorem all16_no {f : Nat → En} {p : En → Bool} {k : Nat} (hk : k < 16) (h : p (f k) = false) : (tab16 f).all p = false := by
  rw [← Bool.not_eq_true, all16]
  intro h1
  rw [h1 k hk] at h
  cases h
theorem upd_next {β : Type} (f g : Nat → β) (k : Nat) : upd (fun i => if i < k then f i else g i) k (f k) = fun i => if i < k + 1 then f i else g i := by
  funext j
  unfold upd
  by_cases h1 : j = k
  · subst h1
    rw [if_pos rfl, if_pos (by omega)]
  · rw [if_neg h1]
    dsimp only
    by_cases h2 : j < k
    · rw [if_pos h2, if_pos (by omega)]
    · rw [if_neg h2, if_neg (by omega)]
theorem upd_none {β : Type} (f g : Nat → β) : (fun i => if i < 0 then f i else g i) = g := by
  funext j
  rw [if_neg (by omega)]
theorem rgC_setSl (r : Rg) (sl sl' : Value) : (rgC r sl).set 10 sl' = rgC r sl' := by kernel_rfl
theorem nat_of {n : Int} (h : 0 ≤ n) : ∃ m : Nat, n = (m : Int) := ⟨n.toNat, by omega⟩
theorem cmpB (a b : Pl) : decide (((a.1, a.2.1, a.2.2) : Pl) = (b.1, b.2.1, b.2.2)) = (cmpP a b == 0) := by
  rw [Bool.eq_iff_iff, decide_eq_true_iff, beq_iff_eq, cmpP_zero]
theorem istat_any (n : Int) (w : World) : Gives Try.prog 46 #[.int .i64 n] w (.bool (statB n)) := by
  unfold Gives
  by_cases q0 : 0 ≤ n <;> by_cases q1 : n ≤ 4
  all_goals try (exfalso; omega)
  all_goals first | (have H : Hid (statB n = true) := Lib.hid (by simp [statB]; omega)) | (have H : Hid (statB n = false) := Lib.hid (by simp [statB]; omega))
  all_goals
    go_enter Try.func46, Try.ntmps46
    go_wp2
    all_goals go_ret
    all_goals exact ⟨by rw [H.out]; rfl, Later.ex (by repeat (first | exact ext_refl _ | refine ext_alloc ?_ _ | refine ext_later ?_ _ | refine ext_drew ?_ | refine ext_drewN ?_ _))⟩
theorem istat_d (n : Int) : Does Try.prog 46 #[.int .i64 n] [] (.bool (statB n)) [] := Does.of_any fun w => istat_any n w
set_option maxHeartbeats 4000000 in
set_option maxRecDepth 100000 in
theorem everyS_d (b : Nat) (a : Rg) (sl : Value) : Does Try.prog 45 #[.slice (some ⟨b, 0, none⟩) 8 8, .func (.func 46) #[] #[]] [boxT b (.cells (rgC a (sl)).toArray 41 (0, 0))] (.bool ((tab8 a.s).all statB)) [boxT b (.cells (rgC a (sl)).toArray 41 (0, 0))] := by
  intro w H hp
  have HM0 := Lib.hid (mem_refl hp)
  clear hp
  go_enter Try.func45, Try.ntmps45
  refine wp_seq ?_
  refine wp_region_N [(0, 1)] (by kernel_rfl) ?_
  refine wpS_this [0] rfl (by kernel_rfl) (by simp only [pickL, nthL, List.cons_append, List.nil_append]; rfl) ?_
  repeat (go_big_quiet_step (fail))
  refine wpQuiet_nil ?_
  refine wpS_nil ?_
  refine then_normal ?_
  refine wp_seq ?_
  refine wp_seq ?_
  refine wp_region_N [(0, 1), (1, 1), (2, 1)] (by kernel_rfl) ?_
  refine wpS_this [0, 1, 2] rfl (by kernel_rfl) (by simp only [pickL, nthL, List.cons_append, List.nil_append]; rfl) ?_
  repeat (go_big_quiet_step (fail))
  refine wpQuiet_nil ?_
  refine wpS_nil ?_
  refine then_normal ?_
  refine wp_block ?_
  refine wp_loop_F [4, 6, 9, 10, 11, 12, 13, 14, 15, 16, 17] (fun n vs W' => ∃ k : Nat, n = 8 - k ∧ vs 9 = .int .i64 (k : Int) ∧ k ≤ 8 ∧ (∀ j, j < k → statB (a.s j) = true) ∧ Mem [boxT b (.cells (rgC a (sl)).toArray 41 (0, 0))] H w W') (n0 := 8) ?_ ?_
  · exact ⟨0, rfl, rfl, Nat.zero_le _, fun j h => by omega, (Mem.only (M := [_]) HM0.out [0] rfl)⟩
  rintro n vs W' ⟨k, rfl, e9, hk, hf', hm⟩
  simp only [putAll, List.map_cons, List.map_nil, Act.put, List.setIfInBounds_toArray, List.set_cons_succ, List.set_cons_zero]
  rw [e9]
  clear e9
  have hf := Lib.hid hf'
  clear hf'
  have HM1 := Lib.hid hm
  clear hm
  refine wp_seq ?_
  refine wp_region_N [(0, 1)] (by kernel_rfl) ?_
  refine wpS_this [0] rfl (by kernel_rfl) (by simp only [pickL, nthL, List.cons_append, List.nil_append]; rfl) ?_
  repeat (go_big_quiet_step (fail))
  refine wpQuiet_nil ?_
  refine wpS_nil ?_
  refine then_normal ?_
  refine wp_seq ?_
  refine wp_cond_split rfl (fun h2 => ?_) (fun h2 => ?_)
  · have hk1 : k + 1 ≤ 8 := by have : (k : Int) < 8 := (by simpa using h2); omega
    clear h2
    refine wp_skip ?_
    refine then_normal ?_
    refine wp_seq ?_
    refine wp_block ?_
    refine wp_seq ?_
    refine wp_region_N [(0, 1), (1, 1), (2, 1)] (by kernel_rfl) ?_
    refine wpS_read (i := 0) (d := some 11) rfl (by rfl) (run_addrSlI (show k < 8 by omega) rfl rfl rfl) rfl ?_
    simp only [Act.put, List.setIfInBounds_toArray, List.set_cons_succ, List.set_cons_zero]
    refine wpS_load1 (i := 1) (d := some 12) (u := _) rfl (by rfl) rfl rfl (HM1.out.sub1 0 rfl (rgC_s (show k < 8 by omega))) Try.underlying3 rfl rfl ?_
    simp only [Act.put, List.setIfInBounds_toArray, List.set_cons_succ, List.set_cons_zero]
    refine wpS_this [2] rfl (by kernel_rfl) (by simp only [pickL, nthL, List.cons_append, List.nil_append]; rfl) ?_
    repeat (go_big_quiet_step (fail))
    refine wpQuiet_nil ?_
    refine wpS_nil ?_
    refine then_normal ?_
    refine wp_seq ?_
    rcases Bool.eq_false_or_eq_true (statB (a.s k)) with hst | hst
    · replace hst := Lib.hid hst
      refine wp_region_N [(0, 1), (1, 1), (2, 3), (3, 1)] (by kernel_rfl) ?_
      refine wpS_this [0, 1] rfl (by kernel_rfl) (by simp only [pickL, nthL, List.cons_append, List.nil_append]; rfl) ?_
      repeat (go_big_quiet_step (fail))
      refine wpQuiet_nil ?_
      refine wpS_doesV1 (i := 2) (d := some 15) (rem := [_]) (out := [_]) rfl (by rfl) rfl rfl Try.call46 (istat_d (a.s k)) rfl rfl HM1.out [] rfl covS_nil rfl rfl ?_
      rintro W4 hm3 -
      rw [hst.out]
      have HM5 := Lib.hid hm3
      clear hm3
      simp only [Act.put, List.setIfInBounds_toArray, List.set_cons_succ, List.set_cons_zero]
      refine wpS_this [3] rfl (by kernel_rfl) (by simp only [pickL, nthL, List.cons_append, List.nil_append]; rfl) ?_
      repeat (go_big_quiet_step (fail))
      refine wpQuiet_nil ?_
      refine wpS_nil ?_
      refine then_normal ?_
      refine wp_cond_false rfl ?_
      refine wp_skip ?_
      refine block_normal ?_
      refine then_normal ?_
      refine wp_region_N [(0, 1), (1, 1)] (by kernel_rfl) ?_
      refine wpS_this [0, 1] rfl (by kernel_rfl) (by simp only [pickL, nthL, List.cons_append, List.nil_append]; rfl) ?_
      repeat (go_big_quiet_step (fail))
      refine wpQuiet_nil ?_
      refine wpS_nil ?_
      refine then_normal ?_
      refine ⟨by kernel_rfl, ?_⟩
      refine ⟨8 - (k + 1), by omega, k + 1, rfl, rfl, hk1, all_next hf.out hst.out, (Mem.only (M := [_]) HM5.out [0] rfl)⟩
    · replace hst := Lib.hid hst
      refine wp_region_N [(0, 1), (1, 1), (2, 3), (3, 1)] (by kernel_rfl) ?_
      refine wpS_this [0, 1] rfl (by kernel_rfl) (by simp only [pickL, nthL, List.cons_append, List.nil_append]; rfl) ?_
      repeat (go_big_quiet_step (fail))
      refine wpQuiet_nil ?_
      refine wpS_doesV1 (i := 2) (d := some 15) (rem := [_]) (out := [_]) rfl (by rfl) rfl rfl Try.call46 (istat_d (a.s k)) rfl rfl HM1.out [] rfl covS_nil rfl rfl ?_
      rintro W7 hm6 -
      rw [hst.out]
      have HM8 := Lib.hid hm6
      clear hm6
      simp only [Act.put, List.setIfInBounds_toArray, List.set_cons_succ, List.set_cons_zero]
      refine wpS_this [3] rfl (by kernel_rfl) (by simp only [pickL, nthL, List.cons_append, List.nil_append]; rfl) ?_
      repeat (go_big_quiet_step (fail))
      refine wpQuiet_nil ?_
      refine wpS_nil ?_
      refine then_normal ?_
      refine wp_cond_true rfl ?_
      refine wp_seq ?_
      refine wp_region_N [(0, 1)] (by kernel_rfl) ?_
      refine wpS_this [0] rfl (by kernel_rfl) (by simp only [pickL, nthL, List.cons_append, List.nil_append]; rfl) ?_
      repeat (go_big_quiet_step (fail))
      refine wpQuiet_nil ?_
      refine wpS_nil ?_
      refine then_normal ?_
      refine wp_ret ?_
      refine block_ret (then_ret (then_ret (block_ret (then_ret ?_))))
      refine bodyPost_ret (results_tmp rfl _ _ _) rfl ?_
      rw [all8_no (show k < 8 by omega) hst.out]
      exact does_ret (Mem.only (M := [_]) HM8.out [0] rfl) rfl rfl
  · have hk8 : Hid (8 ≤ k) := Lib.hid (by have : ¬ (k : Int) < 8 := (by simpa using h2); omega)
    clear h2
    refine wp_exit ?_
    refine then_exit (then_exit (block_exit ?_))
    refine then_normal ?_
    refine wp_seq ?_
    refine wp_region_N [(0, 1)] (by kernel_rfl) ?_
    refine wpS_this [0] rfl (by kernel_rfl) (by simp only [pickL, nthL, List.cons_append, List.nil_append]; rfl) ?_
    repeat (go_big_quiet_step (fail))
    refine wpQuiet_nil ?_
    refine wpS_nil ?_
    refine then_normal ?_
    refine wp_ret ?_
    refine bodyPost_ret (results_tmp rfl _ _ _) rfl ?_
    rw [all8.2 fun j hj => hf.out j (by have := hk8.out; omega)]
    exact does_ret (Mem.only (M := [_]) HM1.out [0] rfl) rfl rfl
set_option maxHeartbeats 4000000 in
set_option maxRecDepth 100000 in
theorem everyE_d (b : Nat) (a : Rg) (sl : Value) : Does Try.prog 48 #[.slice (some ⟨b, 11, none⟩) 16 16, .func (.func 49) #[] #[]] [boxT b (.cells (rgC a (sl)).toArray 41 (0, 0))] (.bool ((tab16 a.e).all mayE)) [boxT b (.cells (rgC a (sl)).toArray 41 (0, 0))] := by
  intro w H hp
  have HM0 := Lib.hid (mem_refl hp)
  clear hp
  go_enter Try.func48, Try.ntmps48
  refine wp_seq ?_
  refine wp_region_N [(0, 1)] (by kernel_rfl) ?_
  refine wpS_this [0] rfl (by kernel_rfl) (by simp only [pickL, nthL, List.cons_append, List.nil_append]; rfl) ?_
  repeat (go_big_quiet_step (fail))
  refine wpQuiet_nil ?_
  refine wpS_nil ?_
  refine then_normal ?_
  refine wp_seq ?_
  refine wp_seq ?_
  refine wp_region_N [(0, 1), (1, 1), (2, 1)] (by kernel_rfl) ?_
  refine wpS_this [0, 1, 2] rfl (by kernel_rfl) (by simp only [pickL, nthL, List.cons_append, List.nil_append]; rfl) ?_
  repeat (go_big_quiet_step (fail))
  refine wpQuiet_nil ?_
  refine wpS_nil ?_
  refine then_normal ?_
  refine wp_block ?_
  refine wp_loop_F [4, 6, 9, 10, 11, 12, 13, 14, 15, 16, 17] (fun n vs W' => ∃ k : Nat, n = 16 - k ∧ vs 9 = .int .i64 (k : Int) ∧ k ≤ 16 ∧ (∀ j, j < k → mayE (a.e j) = true) ∧ Mem [boxT b (.cells (rgC a (sl)).toArray 41 (0, 0))] H w W') (n0 := 16) ?_ ?_
  · exact ⟨0, rfl, rfl, Nat.zero_le _, fun j h => by omega, (Mem.only (M := [_]) HM0.out [0] rfl)⟩
  rintro n vs W' ⟨k, rfl, e9, hk, hf', hm⟩
  simp only [putAll, List.map_cons, List.map_nil, Act.put, List.setIfInBounds_toArray, List.set_cons_succ, List.set_cons_zero]
  rw [e9]
  clear e9
  have hf := Lib.hid hf'
  clear hf'
  have HM1 := Lib.hid hm
  clear hm
  refine wp_seq ?_
  refine wp_region_N [(0, 1)] (by kernel_rfl) ?_
  refine wpS_this [0] rfl (by kernel_rfl) (by simp only [pickL, nthL, List.cons_append, List.nil_append]; rfl) ?_
  repeat (go_big_quiet_step (fail))
  refine wpQuiet_nil ?_
  refine wpS_nil ?_
  refine then_normal ?_
  refine wp_seq ?_
  refine wp_cond_split rfl (fun h2 => ?_) (fun h2 => ?_)
  · have hk1 : k + 1 ≤ 16 := by have : (k : Int) < 16 := (by simpa using h2); omega
    clear h2
    refine wp_skip ?_
    refine then_normal ?_
    refine wp_seq ?_
    refine wp_block ?_
    refine wp_seq ?_
    refine wp_region_N [(0, 1), (1, 1), (2, 3), (3, 3)] (by kernel_rfl) ?_
    refine wpS_read (i := 0) (d := some 11) rfl (by rfl) (run_addrSlE (show k < 16 by omega) rfl rfl rfl) rfl ?_
    simp only [Act.put, List.setIfInBounds_toArray, List.set_cons_succ, List.set_cons_zero]
    refine wpS_loadA (i := 1) (d := some 12) (cells := eC _) rfl (by rfl) rfl rfl (HM1.out.sub 0 rfl (rgC_e (show k < 16 by omega))) Try.underlying38 rfl (by kernel_rfl) rfl ?_
    dsimp only [eC]
    simp only [Act.put, List.setIfInBounds_toArray, List.set_cons_succ, List.set_cons_zero]
    refine wpS_alloc (i := 2) (dd := 6) (z := .agg #[.int .i64 0, .int .i64 0]) (cs := #[.int .i64 0, .int .i64 0]) rfl (by rfl) rfl (by kernel_rfl) rfl HM1.out covS_nil rfl ?_
    rintro b5 W4 hm3 -
    have HM6 := Lib.hid hm3
    clear hm3
    simp only [Act.put, List.setIfInBounds_toArray, List.set_cons_succ, List.set_cons_zero]
    refine wpS_storeA (i := 3) (L2 := [_]) (cs' := [_, _]) rfl (by rfl) rfl rfl rfl (by kernel_rfl) (by rfl) HM6.out 0 rfl rfl rfl rfl covS_nil rfl ?_
    rintro W8 hm7 -
    have HM9 := Lib.hid hm7
    clear hm7
    refine wpS_nil ?_
    refine then_normal ?_
    refine wp_seq ?_
    rcases Bool.eq_false_or_eq_true (mayE (a.e k)) with hst | hst
    · replace hst := Lib.hid hst
      refine wp_region_N [(0, 1), (1, 1), (2, 3), (3, 1)] (by kernel_rfl) ?_
      have Cb6 := Mem.cell HM9.out 0 rfl
      refine wpS_this [0, 1] rfl (by kernel_rfl) (by simp only [pickL, nthL, List.cons_append, List.nil_append]; rfl) ?_
      repeat (go_big_quiet_step (fail))
      refine wpQuiet_nil ?_
      clear Cb6
      refine wpS_doesV1 (i := 2) (d := some 15) (rem := [_, _]) (out := [_, _]) rfl (by rfl) rfl rfl Try.call49 (emay_d (a.e k).1 (a.e k).2) rfl rfl HM9.out [] rfl covS_nil rfl rfl ?_
      rintro W11 hm10 -
      rw [show mayE ((a.e k).1, (a.e k).2) = mayE (a.e k) from rfl, hst.out]
      have HM12 := Lib.hid hm10
      clear hm10
      simp only [Act.put, List.setIfInBounds_toArray, List.set_cons_succ, List.set_cons_zero]
      refine wpS_this [3] rfl (by kernel_rfl) (by simp only [pickL, nthL, List.cons_append, List.nil_append]; rfl) ?_
      repeat (go_big_quiet_step (fail))
      refine wpQuiet_nil ?_
      refine wpS_nil ?_
      refine then_normal ?_
      refine wp_cond_false rfl ?_
      refine wp_skip ?_
      refine block_normal ?_
      refine then_normal ?_
      refine wp_region_N [(0, 1), (1, 1)] (by kernel_rfl) ?_
      refine wpS_this [0, 1] rfl (by kernel_rfl) (by simp only [pickL, nthL, List.cons_append, List.nil_append]; rfl) ?_
      repeat (go_big_quiet_step (fail))
      refine wpQuiet_nil ?_
      refine wpS_nil ?_
      refine then_normal ?_
      refine ⟨by kernel_rfl, ?_⟩
      refine ⟨16 - (k + 1), by omega, k + 1, rfl, rfl, hk1, all_next hf.out hst.out, (Mem.only (M := [_]) HM12.out [1] rfl)⟩
    · replace hst := Lib.hid hst
      refine wp_region_N [(0, 1), (1, 1), (2, 3), (3, 1)] (by kernel_rfl) ?_
      have Cb6 := Mem.cell HM9.out 0 rfl
      refine wpS_this [0, 1] rfl (by kernel_rfl) (by simp only [pickL, nthL, List.cons_append, List.nil_append]; rfl) ?_
      repeat (go_big_quiet_step (fail))
      refine wpQuiet_nil ?_
      clear Cb6
      refine wpS_doesV1 (i := 2) (d := some 15) (rem := [_, _]) (out := [_, _]) rfl (by rfl) rfl rfl Try.call49 (emay_d (a.e k).1 (a.e k).2) rfl rfl HM9.out [] rfl covS_nil rfl rfl ?_
      rintro W14 hm13 -
      rw [show mayE ((a.e k).1, (a.e k).2) = mayE (a.e k) from rfl, hst.out]
      have HM15 := Lib.hid hm13
      clear hm13
      simp only [Act.put, List.setIfInBounds_toArray, List.set_cons_succ, List.set_cons_zero]
      refine wpS_this [3] rfl (by kernel_rfl) (by simp only [pickL, nthL, List.cons_append, List.nil_append]; rfl) ?_
      repeat (go_big_quiet_step (fail))
      refine wpQuiet_nil ?_
      refine wpS_nil ?_
      refine then_normal ?_
      refine wp_cond_true rfl ?_
      refine wp_seq ?_
      refine wp_region_N [(0, 1)] (by kernel_rfl) ?_
      refine wpS_this [0] rfl (by kernel_rfl) (by simp only [pickL, nthL, List.cons_append, List.nil_append]; rfl) ?_
      repeat (go_big_quiet_step (fail))
      refine wpQuiet_nil ?_
      refine wpS_nil ?_
      refine then_normal ?_
      refine wp_ret ?_
      refine block_ret (then_ret (then_ret (block_ret (then_ret ?_))))
      refine bodyPost_ret (results_tmp rfl _ _ _) rfl ?_
      rw [all16_no (show k < 16 by omega) hst.out]
      exact does_ret (Mem.only (M := [_]) HM15.out [1] rfl) rfl rfl
  · have hk8 : Hid (16 ≤ k) := Lib.hid (by have : ¬ (k : Int) < 16 := (by simpa using h2); omega)
    clear h2
    refine wp_exit ?_
    refine then_exit (then_exit (block_exit ?_))
    refine then_normal ?_
    refine wp_seq ?_
    refine wp_region_N [(0, 1)] (by kernel_rfl) ?_
    refine wpS_this [0] rfl (by kernel_rfl) (by simp only [pickL, nthL, List.cons_append, List.nil_append]; rfl) ?_
    repeat (go_big_quiet_step (fail))
    refine wpQuiet_nil ?_
    refine wpS_nil ?_
    refine then_normal ?_
    refine wp_ret ?_
    refine bodyPost_ret (results_tmp rfl _ _ _) rfl ?_
    rw [all16.2 fun j hj => hf.out j (by have := hk8.out; omega)]
    exact does_ret (Mem.only (M := [_]) HM1.out [0] rfl) rfl rfl
end
end Go.Proofs.Ytnahhbpaijfpbaa
