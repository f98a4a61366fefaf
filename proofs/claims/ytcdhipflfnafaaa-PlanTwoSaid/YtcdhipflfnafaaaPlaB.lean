/- Plans: the reference's functions. -/
import Derived.Test.YtcdhipflfnafaaaPlaA
namespace Go.Proofs.Ytcdhipflfnafaaa
open Go Go.RowKit Go.BigFrame

theorem rnode_any (n : Int) (w : World) : Gives Try.prog 23 #[.int .i64 n] w (.bool (nodeE n)) := by
  unfold Gives
  by_cases q0 : 0 ≤ n <;> by_cases q1 : n < 8
  all_goals try (exfalso; omega)
  all_goals first | (have H : Hid (nodeE n = true) := Lib.hid (by simp [nodeE]; omega)) | (have H : Hid (nodeE n = false) := Lib.hid (by simp [nodeE]; omega))
  all_goals
    go_enter Try.func23, Try.ntmps23
    go_wp2
    all_goals go_ret
    all_goals exact ⟨by rw [H.out]; rfl, Later.ex (by repeat (first | exact ext_refl _ | refine ext_alloc ?_ _ | refine ext_later ?_ _ | refine ext_drew ?_ | refine ext_drewN ?_ _))⟩
theorem rnode_d (n : Int) : Does Try.prog 23 #[.int .i64 n] [] (.bool (nodeE n)) [] := Does.of_any fun w => rnode_any n w
set_option maxHeartbeats 4000000 in
set_option maxRecDepth 100000 in
theorem rcmp_d (x y : Int) : Does Try.prog 29 #[.int .i64 x, .int .i64 y] [] (.int .i64 (cmpI x y)) [] := by
  intro w H hp
  have HM0 := Lib.hid (mem_refl hp)
  clear hp
  go_enter Try.func29, Try.ntmps29
  refine wp_seq ?_
  refine wp_region_N [(0, 1)] (by kernel_rfl) ?_
  refine wpS_this [0] rfl (by kernel_rfl) (by simp only [pickL, nthL, List.cons_append, List.nil_append]; rfl) ?_
  repeat (go_big_quiet_step (fail))
  refine wpQuiet_nil ?_
  refine wpS_nil ?_
  refine then_normal ?_
  refine wp_seq ?_
  refine wp_block ?_
  refine wp_seq ?_
  rcases cmpI_spec x y with ⟨h, hc⟩ | ⟨h, hc⟩ | ⟨h, hc⟩
  · have g1 : decide (x < y) = true := decide_eq_true h
    have hc := Lib.hid hc
    refine wp_region_N [(0, 1), (1, 1), (2, 1), (3, 1)] (by kernel_rfl) ?_
    refine wpS_this [0, 1, 2, 3] rfl (by kernel_rfl) (by simp only [pickL, nthL, List.cons_append, List.nil_append]; rfl) ?_
    repeat (go_big_quiet_step (fail))
    refine wpQuiet_nil ?_
    refine wpS_nil ?_
    refine then_normal ?_
    refine wp_cond_true rfl ?_
    refine wp_seq ?_
    refine wp_region_N [(0, 1)] (by kernel_rfl) ?_
    refine wpS_this [0] rfl (by kernel_rfl) (by simp only [pickL, nthL, List.cons_append, List.nil_append]; rfl) ?_
    repeat (go_big_quiet_step (fail))
    refine wpQuiet_nil ?_
    refine wpS_nil ?_
    refine then_normal ?_
    refine wp_ret ?_
    refine block_ret (then_ret ?_)
    refine bodyPost_ret (results_tmp rfl _ _ _) rfl ?_
    exact does_ret (Mem.only (M := []) HM0.out [] rfl) (congrArg (Value.int .i64) hc.out.symm) rfl
  · have g1 : decide (x < y) = false := decide_eq_false (by omega)
    have g2 : decide (y < x) = false := decide_eq_false (by omega)
    have hc := Lib.hid hc
    refine wp_region_N [(0, 1), (1, 1), (2, 1), (3, 1)] (by kernel_rfl) ?_
    refine wpS_this [0, 1, 2, 3] rfl (by kernel_rfl) (by simp only [pickL, nthL, List.cons_append, List.nil_append]; rfl) ?_
    repeat (go_big_quiet_step (fail))
    refine wpQuiet_nil ?_
    refine wpS_nil ?_
    refine then_normal ?_
    refine wp_cond_false rfl ?_
    refine wp_seq ?_
    refine wp_region_N [(0, 1), (1, 1), (2, 1), (3, 1)] (by kernel_rfl) ?_
    refine wpS_this [0, 1, 2, 3] rfl (by kernel_rfl) (by simp only [pickL, nthL, List.cons_append, List.nil_append]; rfl) ?_
    repeat (go_big_quiet_step (fail))
    refine wpQuiet_nil ?_
    refine wpS_nil ?_
    refine then_normal ?_
    refine wp_cond_false rfl ?_
    refine wp_skip ?_
    refine block_normal ?_
    refine then_normal ?_
    refine wp_seq ?_
    refine wp_region_N [(0, 1)] (by kernel_rfl) ?_
    refine wpS_this [0] rfl (by kernel_rfl) (by simp only [pickL, nthL, List.cons_append, List.nil_append]; rfl) ?_
    repeat (go_big_quiet_step (fail))
    refine wpQuiet_nil ?_
    refine wpS_nil ?_
    refine then_normal ?_
    refine wp_ret ?_
    refine bodyPost_ret (results_tmp rfl _ _ _) rfl ?_
    exact does_ret (Mem.only (M := []) HM0.out [] rfl) (congrArg (Value.int .i64) hc.out.symm) rfl
  · have g1 : decide (x < y) = false := decide_eq_false (by omega)
    have g2 : decide (y < x) = true := decide_eq_true (by omega)
    have hc := Lib.hid hc
    refine wp_region_N [(0, 1), (1, 1), (2, 1), (3, 1)] (by kernel_rfl) ?_
    refine wpS_this [0, 1, 2, 3] rfl (by kernel_rfl) (by simp only [pickL, nthL, List.cons_append, List.nil_append]; rfl) ?_
    repeat (go_big_quiet_step (fail))
    refine wpQuiet_nil ?_
    refine wpS_nil ?_
    refine then_normal ?_
    refine wp_cond_false rfl ?_
    refine wp_seq ?_
    refine wp_region_N [(0, 1), (1, 1), (2, 1), (3, 1)] (by kernel_rfl) ?_
    refine wpS_this [0, 1, 2, 3] rfl (by kernel_rfl) (by simp only [pickL, nthL, List.cons_append, List.nil_append]; rfl) ?_
    repeat (go_big_quiet_step (fail))
    refine wpQuiet_nil ?_
    refine wpS_nil ?_
    refine then_normal ?_
    refine wp_cond_true rfl ?_
    refine wp_seq ?_
    refine wp_region_N [(0, 1)] (by kernel_rfl) ?_
    refine wpS_this [0] rfl (by kernel_rfl) (by simp only [pickL, nthL, List.cons_append, List.nil_append]; rfl) ?_
    repeat (go_big_quiet_step (fail))
    refine wpQuiet_nil ?_
    refine wpS_nil ?_
    refine then_normal ?_
    refine wp_ret ?_
    refine block_ret (then_ret ?_)
    refine bodyPost_ret (results_tmp rfl _ _ _) rfl ?_
    exact does_ret (Mem.only (M := []) HM0.out [] rfl) (congrArg (Value.int .i64) hc.out.symm) rfl

set_option maxHeartbeats 4000000 in
set_option maxRecDepth 100000 in
theorem rtgt_d (R : At) (vt : Value) (st : List Int) (ht : Reads elemI R vt st) (lt : st.length ≤ 1000) : Does Try.prog 24 #[vt] [R] (.bool (tgtL st)) [R] := by
  intro w H hp
  have HM0 := Lib.hid (mem_refl hp)
  clear hp
  obtain ⟨pt, ct, rfl⟩ := row_form (Mem.src HM0.out 0 rfl ht)
  go_enter Try.func24, Try.ntmps24
  refine wp_seq ?_
  refine wp_region_N [(0, 1)] (by kernel_rfl) ?_
  refine wpS_this [0] rfl (by kernel_rfl) (by simp only [pickL, nthL, List.cons_append, List.nil_append]; rfl) ?_
  repeat (go_big_quiet_step (fail))
  refine wpQuiet_nil ?_
  refine wpS_nil ?_
  refine then_normal ?_
  refine wp_seq ?_
  refine wp_seq ?_
  refine wp_region_N [(0, 1), (1, 1), (2, 1)] (by kernel_rfl) ?_
  refine wpS_this [0, 1, 2] rfl (by kernel_rfl) (by simp only [pickL, nthL, List.cons_append, List.nil_append]; rfl) ?_
  repeat (go_big_quiet_step (fail))
  refine wpQuiet_nil ?_
  refine wpS_nil ?_
  refine then_normal ?_
  refine wp_block ?_
  refine wp_loop_F [2, 4, 7, 8, 9, 10, 11, 12, 13, 14] (fun n vs W' => ∃ k : Nat, n = st.length - k ∧ vs 7 = .int .i64 (k : Int) ∧ k ≤ st.length ∧ (st.take k).all nodeE = true ∧ Mem [R] H w W') (n0 := st.length) ?_ ?_
  · exact ⟨0, rfl, rfl, Nat.zero_le _, rfl, (Mem.only (M := [_]) HM0.out [0] rfl)⟩
  rintro n vs W' ⟨k, rfl, e7, hk, hf, hm⟩
  simp only [putAll, List.map_cons, List.map_nil, Act.put, List.setIfInBounds_toArray, List.set_cons_succ, List.set_cons_zero]
  rw [e7]
  clear e7
  have hf := Lib.hid hf
  have HM1 := Lib.hid hm
  clear hm
  refine wp_seq ?_
  refine wp_region_N [(0, 1)] (by kernel_rfl) ?_
  refine wpS_this [0] rfl (by kernel_rfl) (by simp only [pickL, nthL, List.cons_append, List.nil_append]; rfl) ?_
  repeat (go_big_quiet_step (fail))
  refine wpQuiet_nil ?_
  refine wpS_nil ?_
  refine then_normal ?_
  refine wp_seq ?_
  refine wp_cond_split rfl (fun h2 => ?_) (fun h2 => ?_)
  · have hk1 : k + 1 ≤ st.length := by have : (k : Int) < ((st.length : Nat) : Int) := (by simpa using h2); omega
    clear h2
    obtain ⟨x, hx'⟩ : ∃ y, st[k]? = some y := ⟨_, List.getElem?_eq_getElem (hk1)⟩
    have hx := Lib.hid hx'
    clear hx'
    refine wp_skip ?_
    refine then_normal ?_
    refine wp_seq ?_
    refine wp_block ?_
    refine wp_seq ?_
    refine wp_region_N [(0, 1), (1, 1), (2, 1)] (by kernel_rfl) ?_
    refine wpS_index (E := elemI) (i := 0) (d := some 9) rfl (by rfl) rfl rfl rfl (HM1.out.row 0 rfl ht.row) (hx.out) rfl ?_
    intro eb3 eo4 hc5
    simp only [Act.put, List.setIfInBounds_toArray, List.set_cons_succ, List.set_cons_zero]
    refine wpS_load1 (i := 1) (d := some 10) (u := .int .i64 x) rfl (by rfl) rfl rfl (hc5 0 _ rfl) Try.underlying3 rfl rfl ?_
    simp only [Act.put, List.setIfInBounds_toArray, List.set_cons_succ, List.set_cons_zero]
    refine wpS_this [2] rfl (by kernel_rfl) (by simp only [pickL, nthL, List.cons_append, List.nil_append]; rfl) ?_
    repeat (go_big_quiet_step (fail))
    refine wpQuiet_nil ?_
    refine wpS_nil ?_
    refine then_normal ?_
    refine wp_seq ?_
    rcases Bool.eq_false_or_eq_true (nodeE x) with hn | hn
    · replace hn := Lib.hid hn
      refine wp_region_N [(0, 1), (1, 3), (2, 1)] (by kernel_rfl) ?_
      refine wpS_this [0] rfl (by kernel_rfl) (by simp only [pickL, nthL, List.cons_append, List.nil_append]; rfl) ?_
      repeat (go_big_quiet_step (fail))
      refine wpQuiet_nil ?_
      refine wpS_does1 (i := 1) (d := some 12) (rem := [_]) (out := [_]) rfl (by rfl) rfl Try.call23 (rnode_d x) rfl HM1.out [] rfl covS_nil rfl rfl ?_
      rintro W7 hm6 -
      rw [hn.out]
      have HM8 := Lib.hid hm6
      clear hm6
      simp only [Act.put, List.setIfInBounds_toArray, List.set_cons_succ, List.set_cons_zero]
      refine wpS_this [2] rfl (by kernel_rfl) (by simp only [pickL, nthL, List.cons_append, List.nil_append]; rfl) ?_
      repeat (go_big_quiet_step (fail))
      refine wpQuiet_nil ?_
      refine wpS_nil ?_
      refine then_normal ?_
      refine wp_cond_false rfl ?_
      refine wp_skip ?_
      refine block_normal ?_
      refine then_normal ?_
      refine wp_region_N [(0, 1), (1, 1)] (by kernel_rfl) ?_
      refine wpS_this [0, 1] rfl (by kernel_rfl) (by simp only [pickL, nthL, List.cons_append, List.nil_append]; rfl) ?_
      repeat (go_big_quiet_step (fail))
      refine wpQuiet_nil ?_
      refine wpS_nil ?_
      refine then_normal ?_
      refine ⟨by kernel_rfl, ?_⟩
      refine ⟨st.length - (k + 1), by omega, k + 1, rfl, rfl, hk1, ?_, (Mem.only (M := [_]) HM8.out [0] rfl)⟩
      rw [all_step hx.out, hf.out, hn.out]
      rfl
    · replace hn := Lib.hid hn
      refine wp_region_N [(0, 1), (1, 3), (2, 1)] (by kernel_rfl) ?_
      refine wpS_this [0] rfl (by kernel_rfl) (by simp only [pickL, nthL, List.cons_append, List.nil_append]; rfl) ?_
      repeat (go_big_quiet_step (fail))
      refine wpQuiet_nil ?_
      refine wpS_does1 (i := 1) (d := some 12) (rem := [_]) (out := [_]) rfl (by rfl) rfl Try.call23 (rnode_d x) rfl HM1.out [] rfl covS_nil rfl rfl ?_
      rintro W10 hm9 -
      rw [hn.out]
      have HM11 := Lib.hid hm9
      clear hm9
      simp only [Act.put, List.setIfInBounds_toArray, List.set_cons_succ, List.set_cons_zero]
      refine wpS_this [2] rfl (by kernel_rfl) (by simp only [pickL, nthL, List.cons_append, List.nil_append]; rfl) ?_
      repeat (go_big_quiet_step (fail))
      refine wpQuiet_nil ?_
      refine wpS_nil ?_
      refine then_normal ?_
      refine wp_cond_true rfl ?_
      refine wp_seq ?_
      refine wp_region_N [(0, 1)] (by kernel_rfl) ?_
      refine wpS_this [0] rfl (by kernel_rfl) (by simp only [pickL, nthL, List.cons_append, List.nil_append]; rfl) ?_
      repeat (go_big_quiet_step (fail))
      refine wpQuiet_nil ?_
      refine wpS_nil ?_
      refine then_normal ?_
      refine wp_ret ?_
      refine block_ret (then_ret (then_ret (block_ret (then_ret ?_))))
      refine bodyPost_ret (results_tmp rfl _ _ _) rfl ?_
      rw [tgtL_no hx.out hn.out]
      exact does_ret (Mem.only (M := [_]) HM11.out [0] rfl) rfl rfl
  · have hge : Hid (st.length ≤ k) := Lib.hid (by have : ¬ (k : Int) < ((st.length : Nat) : Int) := (by simpa using h2); omega)
    clear h2
    refine wp_exit ?_
    refine then_exit (then_exit (block_exit ?_))
    refine then_normal ?_
    refine wp_seq ?_
    by_cases hl : st.length = 16
    · have g16 : ((st.length : Int) == 16) = true := by simp; omega
      replace hl := Lib.hid hl
      refine wp_region_N [(0, 1), (1, 1), (2, 1), (3, 1)] (by kernel_rfl) ?_
      refine wpS_this [0, 1, 2, 3] rfl (by kernel_rfl) (by simp only [pickL, nthL, List.cons_append, List.nil_append]; rfl) ?_
      repeat (go_big_quiet_step (fail))
      refine wpQuiet_nil ?_
      refine wpS_nil ?_
      refine then_normal ?_
      refine wp_ret ?_
      refine bodyPost_ret (results_tmp rfl _ _ _) rfl ?_
      have hkl : k = st.length := by have := hge.out; omega
      subst hkl
      have hc : tgtL st = true := by
          unfold tgtL
          rw [decide_eq_true hl.out]
          have h1 := hf.out
          rw [List.take_length] at h1
          rw [h1]
          rfl
      rw [hc]
      exact does_ret (Mem.only (M := [_]) HM1.out [0] rfl) rfl rfl
    · have g16 : ((st.length : Int) == 16) = false := by simp; omega
      replace hl := Lib.hid hl
      refine wp_region_N [(0, 1), (1, 1), (2, 1), (3, 1)] (by kernel_rfl) ?_
      refine wpS_this [0, 1, 2, 3] rfl (by kernel_rfl) (by simp only [pickL, nthL, List.cons_append, List.nil_append]; rfl) ?_
      repeat (go_big_quiet_step (fail))
      refine wpQuiet_nil ?_
      refine wpS_nil ?_
      refine then_normal ?_
      refine wp_ret ?_
      refine bodyPost_ret (results_tmp rfl _ _ _) rfl ?_
      have hc : tgtL st = false := by unfold tgtL; rw [decide_eq_false hl.out]; rfl
      rw [hc]
      exact does_ret (Mem.only (M := [_]) HM1.out [0] rfl) rfl rfl

set_option maxHeartbeats 4000000 in
set_option maxRecDepth 100000 in
theorem rmay_d (R : At) (va : Value) (a1 a2 : Int) (sa : List Int) (ha : Reads elemI R va sa) (la : sa.length ≤ 1000) : Does Try.prog 13 #[.agg #[.int .i64 a1, .int .i64 a2, va]] [R] (.bool (mayP (a1, a2, sa))) [R] := by
  intro w H hp
  have HM0 := Lib.hid (mem_refl hp)
  clear hp
  obtain ⟨pa, ca, rfl⟩ := row_form (Mem.src HM0.out 0 rfl ha)
  go_enter Try.func13, Try.ntmps13
  refine wp_seq ?_
  refine wp_region_N [(0, 3), (1, 1)] (by kernel_rfl) ?_
  refine wpS_boxA (i := 0) (dd := 1) rfl (by rfl) rfl rfl HM0.out covS_nil rfl ?_
  rintro b3 W2 hm1 -
  have HM4 := Lib.hid hm1
  clear hm1
  simp only [Act.put, List.setIfInBounds_toArray, List.set_cons_succ, List.set_cons_zero]
  refine wpS_this [1] rfl (by kernel_rfl) (by simp only [pickL, nthL, List.cons_append, List.nil_append]; rfl) ?_
  repeat (go_big_quiet_step (fail))
  refine wpQuiet_nil ?_
  refine wpS_nil ?_
  refine then_normal ?_
  refine wp_seq ?_
  refine wp_seq ?_
  rcases may_ways a1 a2 sa with ⟨h1, h2, h3, hz, hc⟩ | ⟨h1, h2, h3, hz, hc⟩ | ⟨h1, h2, hz, hc⟩ | ⟨h1, h2, hz, hc⟩ | ⟨h1, h2, h3, hz, hc⟩ | ⟨h1, h2, h3, hn, hz, hc⟩ | ⟨h1, h2, h3, hn, hz, hc⟩
  · have g1 : (a1 == 0) = true := beq_iff_eq.2 (by omega)
    have g2 : (a2 == 0) = true := beq_iff_eq.2 (by omega)
    have g3 : ((sa.length : Int) == 0) = true := beq_iff_eq.2 (by omega)
    replace hz := Lib.hid hz
    replace hc := Lib.hid hc
    clear h1 h2
    clear h3
    refine wp_region_N [(0, 1), (1, 1), (2, 1), (3, 1), (4, 1), (5, 1), (6, 1), (7, 1), (8, 1), (9, 1), (10, 1), (11, 1), (12, 1), (13, 1)] (by kernel_rfl) ?_
    have Cb1 := Mem.cell HM4.out 0 rfl
    refine wpS_this [0, 1, 2, 3, 4, 5, 6, 7, 8, 9, 10, 11, 12, 13] rfl (by kernel_rfl) (by simp only [pickL, nthL, List.cons_append, List.nil_append]; rfl) ?_
    repeat (go_big_quiet_step (fail))
    refine wpQuiet_nil ?_
    clear Cb1
    refine wpS_nil ?_
    refine then_normal ?_
    refine wp_cond_true rfl ?_
    refine wp_seq ?_
    refine wp_region_N [(0, 1)] (by kernel_rfl) ?_
    refine wpS_this [0] rfl (by kernel_rfl) (by simp only [pickL, nthL, List.cons_append, List.nil_append]; rfl) ?_
    repeat (go_big_quiet_step (fail))
    refine wpQuiet_nil ?_
    refine wpS_nil ?_
    refine then_normal ?_
    refine wp_ret ?_
    refine then_ret ?_
    refine bodyPost_ret (results_tmp rfl _ _ _) rfl ?_
    rw [hc.out]
    exact does_ret (Mem.only (M := [_]) HM4.out [1] rfl) rfl rfl
  · have g1 : (a1 == 0) = true := beq_iff_eq.2 (by omega)
    have g2 : (a2 == 0) = true := beq_iff_eq.2 (by omega)
    have g3 : ((sa.length : Int) == 0) = false := beq_eq_false_iff_ne.2 (by omega)
    have g4 : decide (1 ≤ a1) = false := decide_eq_false (by omega)
    replace hz := Lib.hid hz
    replace hc := Lib.hid hc
    clear h1 h2
    clear h3
    refine wp_region_N [(0, 1), (1, 1), (2, 1), (3, 1), (4, 1), (5, 1), (6, 1), (7, 1), (8, 1), (9, 1), (10, 1), (11, 1), (12, 1), (13, 1)] (by kernel_rfl) ?_
    have Cb1 := Mem.cell HM4.out 0 rfl
    refine wpS_this [0, 1, 2, 3, 4, 5, 6, 7, 8, 9, 10, 11, 12, 13] rfl (by kernel_rfl) (by simp only [pickL, nthL, List.cons_append, List.nil_append]; rfl) ?_
    repeat (go_big_quiet_step (fail))
    refine wpQuiet_nil ?_
    clear Cb1
    refine wpS_nil ?_
    refine then_normal ?_
    refine wp_cond_false rfl ?_
    refine wp_skip ?_
    refine then_normal ?_
    refine wp_seq ?_
    refine wp_region_N [(0, 1), (1, 1), (2, 1), (3, 1), (4, 1), (5, 1), (6, 1), (7, 1), (8, 1), (9, 1), (10, 1), (11, 3), (12, 1), (13, 1), (14, 1), (15, 1), (16, 3), (17, 1), (18, 1)] (by kernel_rfl) ?_
    have Cb1 := Mem.cell HM4.out 0 rfl
    refine wpS_this [0, 1, 2, 3, 4, 5, 6, 7, 8, 9, 10] rfl (by kernel_rfl) (by simp only [pickL, nthL, List.cons_append, List.nil_append]; rfl) ?_
    repeat (go_big_quiet_step (fail))
    refine wpQuiet_nil ?_
    clear Cb1
    refine wpS_skip (i := 11) (d := some 28) rfl (by rfl) rfl ?_
    simp only [Act.put, List.setIfInBounds_toArray, List.set_cons_succ, List.set_cons_zero]
    have Cb1 := Mem.cell HM4.out 0 rfl
    refine wpS_this [12, 13, 14, 15] rfl (by kernel_rfl) (by simp only [pickL, nthL, List.cons_append, List.nil_append]; rfl) ?_
    repeat (go_big_quiet_step (fail))
    refine wpQuiet_nil ?_
    clear Cb1
    refine wpS_skip (i := 16) (d := some 33) rfl (by rfl) rfl ?_
    simp only [Act.put, List.setIfInBounds_toArray, List.set_cons_succ, List.set_cons_zero]
    refine wpS_this [17, 18] rfl (by kernel_rfl) (by simp only [pickL, nthL, List.cons_append, List.nil_append]; rfl) ?_
    repeat (go_big_quiet_step (fail))
    refine wpQuiet_nil ?_
    refine wpS_nil ?_
    refine then_normal ?_
    refine wp_ret ?_
    refine bodyPost_ret (results_tmp rfl _ _ _) rfl ?_
    rw [hc.out]
    exact does_ret (Mem.only (M := [_]) HM4.out [1] rfl) rfl rfl
  · have g1 : (a1 == 0) = true := beq_iff_eq.2 (by omega)
    have g2 : (a2 == 0) = false := beq_eq_false_iff_ne.2 (by omega)
    have g4 : decide (1 ≤ a1) = false := decide_eq_false (by omega)
    replace hz := Lib.hid hz
    replace hc := Lib.hid hc
    clear h1 h2
    refine wp_region_N [(0, 1), (1, 1), (2, 1), (3, 1), (4, 1), (5, 1), (6, 1), (7, 1), (8, 1), (9, 1), (10, 1), (11, 1), (12, 1), (13, 1)] (by kernel_rfl) ?_
    have Cb1 := Mem.cell HM4.out 0 rfl
    refine wpS_this [0, 1, 2, 3, 4, 5, 6, 7, 8, 9, 10, 11, 12, 13] rfl (by kernel_rfl) (by simp only [pickL, nthL, List.cons_append, List.nil_append]; rfl) ?_
    repeat (go_big_quiet_step (fail))
    refine wpQuiet_nil ?_
    clear Cb1
    refine wpS_nil ?_
    refine then_normal ?_
    refine wp_cond_false rfl ?_
    refine wp_skip ?_
    refine then_normal ?_
    refine wp_seq ?_
    refine wp_region_N [(0, 1), (1, 1), (2, 1), (3, 1), (4, 1), (5, 1), (6, 1), (7, 1), (8, 1), (9, 1), (10, 1), (11, 3), (12, 1), (13, 1), (14, 1), (15, 1), (16, 3), (17, 1), (18, 1)] (by kernel_rfl) ?_
    have Cb1 := Mem.cell HM4.out 0 rfl
    refine wpS_this [0, 1, 2, 3, 4, 5, 6, 7, 8, 9, 10] rfl (by kernel_rfl) (by simp only [pickL, nthL, List.cons_append, List.nil_append]; rfl) ?_
    repeat (go_big_quiet_step (fail))
    refine wpQuiet_nil ?_
    clear Cb1
    refine wpS_skip (i := 11) (d := some 28) rfl (by rfl) rfl ?_
    simp only [Act.put, List.setIfInBounds_toArray, List.set_cons_succ, List.set_cons_zero]
    have Cb1 := Mem.cell HM4.out 0 rfl
    refine wpS_this [12, 13, 14, 15] rfl (by kernel_rfl) (by simp only [pickL, nthL, List.cons_append, List.nil_append]; rfl) ?_
    repeat (go_big_quiet_step (fail))
    refine wpQuiet_nil ?_
    clear Cb1
    refine wpS_skip (i := 16) (d := some 33) rfl (by rfl) rfl ?_
    simp only [Act.put, List.setIfInBounds_toArray, List.set_cons_succ, List.set_cons_zero]
    refine wpS_this [17, 18] rfl (by kernel_rfl) (by simp only [pickL, nthL, List.cons_append, List.nil_append]; rfl) ?_
    repeat (go_big_quiet_step (fail))
    refine wpQuiet_nil ?_
    refine wpS_nil ?_
    refine then_normal ?_
    refine wp_ret ?_
    refine bodyPost_ret (results_tmp rfl _ _ _) rfl ?_
    rw [hc.out]
    exact does_ret (Mem.only (M := [_]) HM4.out [1] rfl) rfl rfl
  · have g1 : (a1 == 0) = false := beq_eq_false_iff_ne.2 (by omega)
    have g4 : decide (1 ≤ a1) = false := decide_eq_false (by omega)
    replace hz := Lib.hid hz
    replace hc := Lib.hid hc
    clear h1 h2
    refine wp_region_N [(0, 1), (1, 1), (2, 1), (3, 1), (4, 1), (5, 1), (6, 1), (7, 1), (8, 1), (9, 1), (10, 1), (11, 1), (12, 1), (13, 1)] (by kernel_rfl) ?_
    have Cb1 := Mem.cell HM4.out 0 rfl
    refine wpS_this [0, 1, 2, 3, 4, 5, 6, 7, 8, 9, 10, 11, 12, 13] rfl (by kernel_rfl) (by simp only [pickL, nthL, List.cons_append, List.nil_append]; rfl) ?_
    repeat (go_big_quiet_step (fail))
    refine wpQuiet_nil ?_
    clear Cb1
    refine wpS_nil ?_
    refine then_normal ?_
    refine wp_cond_false rfl ?_
    refine wp_skip ?_
    refine then_normal ?_
    refine wp_seq ?_
    refine wp_region_N [(0, 1), (1, 1), (2, 1), (3, 1), (4, 1), (5, 1), (6, 1), (7, 1), (8, 1), (9, 1), (10, 1), (11, 3), (12, 1), (13, 1), (14, 1), (15, 1), (16, 3), (17, 1), (18, 1)] (by kernel_rfl) ?_
    have Cb1 := Mem.cell HM4.out 0 rfl
    refine wpS_this [0, 1, 2, 3, 4, 5, 6, 7, 8, 9, 10] rfl (by kernel_rfl) (by simp only [pickL, nthL, List.cons_append, List.nil_append]; rfl) ?_
    repeat (go_big_quiet_step (fail))
    refine wpQuiet_nil ?_
    clear Cb1
    refine wpS_skip (i := 11) (d := some 28) rfl (by rfl) rfl ?_
    simp only [Act.put, List.setIfInBounds_toArray, List.set_cons_succ, List.set_cons_zero]
    have Cb1 := Mem.cell HM4.out 0 rfl
    refine wpS_this [12, 13, 14, 15] rfl (by kernel_rfl) (by simp only [pickL, nthL, List.cons_append, List.nil_append]; rfl) ?_
    repeat (go_big_quiet_step (fail))
    refine wpQuiet_nil ?_
    clear Cb1
    refine wpS_skip (i := 16) (d := some 33) rfl (by rfl) rfl ?_
    simp only [Act.put, List.setIfInBounds_toArray, List.set_cons_succ, List.set_cons_zero]
    refine wpS_this [17, 18] rfl (by kernel_rfl) (by simp only [pickL, nthL, List.cons_append, List.nil_append]; rfl) ?_
    repeat (go_big_quiet_step (fail))
    refine wpQuiet_nil ?_
    refine wpS_nil ?_
    refine then_normal ?_
    refine wp_ret ?_
    refine bodyPost_ret (results_tmp rfl _ _ _) rfl ?_
    rw [hc.out]
    exact does_ret (Mem.only (M := [_]) HM4.out [1] rfl) rfl rfl
  · have g1 : (a1 == 0) = false := beq_eq_false_iff_ne.2 (by omega)
    have g4 : decide (1 ≤ a1) = true := decide_eq_true (by omega)
    have g5 : decide (a1 ≤ 1000000) = false := decide_eq_false (by omega)
    replace hz := Lib.hid hz
    replace hc := Lib.hid hc
    clear h1 h2
    clear h3
    refine wp_region_N [(0, 1), (1, 1), (2, 1), (3, 1), (4, 1), (5, 1), (6, 1), (7, 1), (8, 1), (9, 1), (10, 1), (11, 1), (12, 1), (13, 1)] (by kernel_rfl) ?_
    have Cb1 := Mem.cell HM4.out 0 rfl
    refine wpS_this [0, 1, 2, 3, 4, 5, 6, 7, 8, 9, 10, 11, 12, 13] rfl (by kernel_rfl) (by simp only [pickL, nthL, List.cons_append, List.nil_append]; rfl) ?_
    repeat (go_big_quiet_step (fail))
    refine wpQuiet_nil ?_
    clear Cb1
    refine wpS_nil ?_
    refine then_normal ?_
    refine wp_cond_false rfl ?_
    refine wp_skip ?_
    refine then_normal ?_
    refine wp_seq ?_
    refine wp_region_N [(0, 1), (1, 1), (2, 1), (3, 1), (4, 1), (5, 1), (6, 1), (7, 1), (8, 1), (9, 1), (10, 1), (11, 3), (12, 1), (13, 1), (14, 1), (15, 1), (16, 3), (17, 1), (18, 1)] (by kernel_rfl) ?_
    have Cb1 := Mem.cell HM4.out 0 rfl
    refine wpS_this [0, 1, 2, 3, 4, 5, 6, 7, 8, 9, 10] rfl (by kernel_rfl) (by simp only [pickL, nthL, List.cons_append, List.nil_append]; rfl) ?_
    repeat (go_big_quiet_step (fail))
    refine wpQuiet_nil ?_
    clear Cb1
    refine wpS_skip (i := 11) (d := some 28) rfl (by rfl) rfl ?_
    simp only [Act.put, List.setIfInBounds_toArray, List.set_cons_succ, List.set_cons_zero]
    have Cb1 := Mem.cell HM4.out 0 rfl
    refine wpS_this [12, 13, 14, 15] rfl (by kernel_rfl) (by simp only [pickL, nthL, List.cons_append, List.nil_append]; rfl) ?_
    repeat (go_big_quiet_step (fail))
    refine wpQuiet_nil ?_
    clear Cb1
    refine wpS_skip (i := 16) (d := some 33) rfl (by rfl) rfl ?_
    simp only [Act.put, List.setIfInBounds_toArray, List.set_cons_succ, List.set_cons_zero]
    refine wpS_this [17, 18] rfl (by kernel_rfl) (by simp only [pickL, nthL, List.cons_append, List.nil_append]; rfl) ?_
    repeat (go_big_quiet_step (fail))
    refine wpQuiet_nil ?_
    refine wpS_nil ?_
    refine then_normal ?_
    refine wp_ret ?_
    refine bodyPost_ret (results_tmp rfl _ _ _) rfl ?_
    rw [hc.out]
    exact does_ret (Mem.only (M := [_]) HM4.out [1] rfl) rfl rfl
  · have g1 : (a1 == 0) = false := beq_eq_false_iff_ne.2 (by omega)
    have g4 : decide (1 ≤ a1) = true := decide_eq_true (by omega)
    have g5 : decide (a1 ≤ 1000000) = true := decide_eq_true (by omega)
    replace hn := Lib.hid hn
    replace hz := Lib.hid hz
    replace hc := Lib.hid hc
    clear h1 h2
    clear h3
    refine wp_region_N [(0, 1), (1, 1), (2, 1), (3, 1), (4, 1), (5, 1), (6, 1), (7, 1), (8, 1), (9, 1), (10, 1), (11, 1), (12, 1), (13, 1)] (by kernel_rfl) ?_
    have Cb1 := Mem.cell HM4.out 0 rfl
    refine wpS_this [0, 1, 2, 3, 4, 5, 6, 7, 8, 9, 10, 11, 12, 13] rfl (by kernel_rfl) (by simp only [pickL, nthL, List.cons_append, List.nil_append]; rfl) ?_
    repeat (go_big_quiet_step (fail))
    refine wpQuiet_nil ?_
    clear Cb1
    refine wpS_nil ?_
    refine then_normal ?_
    refine wp_cond_false rfl ?_
    refine wp_skip ?_
    refine then_normal ?_
    refine wp_seq ?_
    refine wp_region_N [(0, 1), (1, 1), (2, 1), (3, 1), (4, 1), (5, 1), (6, 1), (7, 1), (8, 1), (9, 1), (10, 1), (11, 3), (12, 1), (13, 1), (14, 1), (15, 1), (16, 3), (17, 1), (18, 1)] (by kernel_rfl) ?_
    have Cb1 := Mem.cell HM4.out 0 rfl
    refine wpS_this [0, 1, 2, 3, 4, 5, 6, 7, 8, 9, 10] rfl (by kernel_rfl) (by simp only [pickL, nthL, List.cons_append, List.nil_append]; rfl) ?_
    repeat (go_big_quiet_step (fail))
    refine wpQuiet_nil ?_
    clear Cb1
    refine wpS_does1 (i := 11) (d := some 28) (rem := [_, _]) (out := [_, _]) rfl (by rfl) rfl Try.call23 (rnode_d a2) rfl HM4.out [] rfl covS_nil rfl rfl ?_
    rintro W6 hm5 -
    rw [hn.out]
    have HM7 := Lib.hid hm5
    clear hm5
    simp only [Act.put, List.setIfInBounds_toArray, List.set_cons_succ, List.set_cons_zero]
    have Cb1 := Mem.cell HM7.out 0 rfl
    refine wpS_this [12, 13, 14, 15] rfl (by kernel_rfl) (by simp only [pickL, nthL, List.cons_append, List.nil_append]; rfl) ?_
    repeat (go_big_quiet_step (fail))
    refine wpQuiet_nil ?_
    clear Cb1
    refine wpS_skip (i := 16) (d := some 33) rfl (by rfl) rfl ?_
    simp only [Act.put, List.setIfInBounds_toArray, List.set_cons_succ, List.set_cons_zero]
    refine wpS_this [17, 18] rfl (by kernel_rfl) (by simp only [pickL, nthL, List.cons_append, List.nil_append]; rfl) ?_
    repeat (go_big_quiet_step (fail))
    refine wpQuiet_nil ?_
    refine wpS_nil ?_
    refine then_normal ?_
    refine wp_ret ?_
    refine bodyPost_ret (results_tmp rfl _ _ _) rfl ?_
    rw [hc.out]
    exact does_ret (Mem.only (M := [_]) HM7.out [1] rfl) rfl rfl
  · have g1 : (a1 == 0) = false := beq_eq_false_iff_ne.2 (by omega)
    have g4 : decide (1 ≤ a1) = true := decide_eq_true (by omega)
    have g5 : decide (a1 ≤ 1000000) = true := decide_eq_true (by omega)
    replace hn := Lib.hid hn
    replace hz := Lib.hid hz
    replace hc := Lib.hid hc
    clear h1 h2
    clear h3
    refine wp_region_N [(0, 1), (1, 1), (2, 1), (3, 1), (4, 1), (5, 1), (6, 1), (7, 1), (8, 1), (9, 1), (10, 1), (11, 1), (12, 1), (13, 1)] (by kernel_rfl) ?_
    have Cb1 := Mem.cell HM4.out 0 rfl
    refine wpS_this [0, 1, 2, 3, 4, 5, 6, 7, 8, 9, 10, 11, 12, 13] rfl (by kernel_rfl) (by simp only [pickL, nthL, List.cons_append, List.nil_append]; rfl) ?_
    repeat (go_big_quiet_step (fail))
    refine wpQuiet_nil ?_
    clear Cb1
    refine wpS_nil ?_
    refine then_normal ?_
    refine wp_cond_false rfl ?_
    refine wp_skip ?_
    refine then_normal ?_
    refine wp_seq ?_
    refine wp_region_N [(0, 1), (1, 1), (2, 1), (3, 1), (4, 1), (5, 1), (6, 1), (7, 1), (8, 1), (9, 1), (10, 1), (11, 3), (12, 1), (13, 1), (14, 1), (15, 1), (16, 3), (17, 1), (18, 1)] (by kernel_rfl) ?_
    have Cb1 := Mem.cell HM4.out 0 rfl
    refine wpS_this [0, 1, 2, 3, 4, 5, 6, 7, 8, 9, 10] rfl (by kernel_rfl) (by simp only [pickL, nthL, List.cons_append, List.nil_append]; rfl) ?_
    repeat (go_big_quiet_step (fail))
    refine wpQuiet_nil ?_
    clear Cb1
    refine wpS_does1 (i := 11) (d := some 28) (rem := [_, _]) (out := [_, _]) rfl (by rfl) rfl Try.call23 (rnode_d a2) rfl HM4.out [] rfl covS_nil rfl rfl ?_
    rintro W9 hm8 -
    rw [hn.out]
    have HM10 := Lib.hid hm8
    clear hm8
    simp only [Act.put, List.setIfInBounds_toArray, List.set_cons_succ, List.set_cons_zero]
    have Cb1 := Mem.cell HM10.out 0 rfl
    refine wpS_this [12, 13, 14, 15] rfl (by kernel_rfl) (by simp only [pickL, nthL, List.cons_append, List.nil_append]; rfl) ?_
    repeat (go_big_quiet_step (fail))
    refine wpQuiet_nil ?_
    clear Cb1
    refine wpS_does1 (i := 16) (d := some 33) (rem := [_]) (out := [_, _]) rfl (by rfl) rfl Try.call24 (rtgt_d R _ sa ha la) rfl HM10.out [1] rfl covS_nil rfl rfl ?_
    rintro W12 hm11 -
    have HM13 := Lib.hid hm11
    clear hm11
    simp only [Act.put, List.setIfInBounds_toArray, List.set_cons_succ, List.set_cons_zero]
    refine wpS_this [17, 18] rfl (by kernel_rfl) (by simp only [pickL, nthL, List.cons_append, List.nil_append]; rfl) ?_
    repeat (go_big_quiet_step (fail))
    refine wpQuiet_nil ?_
    refine wpS_nil ?_
    refine then_normal ?_
    refine wp_ret ?_
    refine bodyPost_ret (results_tmp rfl _ _ _) rfl ?_
    rw [hc.out]
    exact does_ret (Mem.only (M := [_]) HM13.out [0] rfl) rfl rfl

set_option maxHeartbeats 4000000 in
set_option maxRecDepth 100000 in
theorem rcompare_d (R : At) (va : Value) (a1 a2 : Int) (sa : List Int) (ha : Reads elemI R va sa) (la : sa.length ≤ 1000) (vb : Value) (b1 b2 : Int) (sb : List Int) (hb : Reads elemI R vb sb) (_lb : sb.length ≤ 1000) : Does Try.prog 15 #[.agg #[.int .i64 a1, .int .i64 a2, va], .agg #[.int .i64 b1, .int .i64 b2, vb]] [R] (.int .i64 (cmpP (a1, a2, sa) (b1, b2, sb))) [R] := by
  intro w H hp
  have HM0 := Lib.hid (mem_refl hp)
  clear hp
  obtain ⟨pa, ca, rfl⟩ := row_form (Mem.src HM0.out 0 rfl ha)
  obtain ⟨pb, cb, rfl⟩ := row_form (Mem.src HM0.out 0 rfl hb)
  go_enter Try.func15, Try.ntmps15
  refine wp_seq ?_
  refine wp_region_N [(0, 3), (1, 3), (2, 1)] (by kernel_rfl) ?_
  refine wpS_boxA (i := 0) (dd := 2) rfl (by rfl) rfl rfl HM0.out covS_nil rfl ?_
  rintro b3 W2 hm1 -
  have HM4 := Lib.hid hm1
  clear hm1
  simp only [Act.put, List.setIfInBounds_toArray, List.set_cons_succ, List.set_cons_zero]
  refine wpS_boxA (i := 1) (dd := 3) rfl (by rfl) rfl rfl HM4.out covS_nil rfl ?_
  rintro b7 W6 hm5 -
  have HM8 := Lib.hid hm5
  clear hm5
  simp only [Act.put, List.setIfInBounds_toArray, List.set_cons_succ, List.set_cons_zero]
  refine wpS_this [2] rfl (by kernel_rfl) (by simp only [pickL, nthL, List.cons_append, List.nil_append]; rfl) ?_
  repeat (go_big_quiet_step (fail))
  refine wpQuiet_nil ?_
  refine wpS_nil ?_
  refine then_normal ?_
  refine wp_seq ?_
  refine wp_seq ?_
  rcases cmp_ways (a1, a2, sa) (b1, b2, sb) with ⟨h1, hc⟩ | ⟨h1, h2, hc⟩ | ⟨h1, h2, h3, hc⟩ | ⟨h1, h2, h3, hc⟩
  · have g1 : (a1 != b1) = true := bne_iff_ne.2 h1
    replace hc := Lib.hid hc
    clear h1
    refine wp_region_N [(0, 1), (1, 1), (2, 1), (3, 1), (4, 1)] (by kernel_rfl) ?_
    have Cb2 := Mem.cell HM8.out 1 rfl
    have Cb3 := Mem.cell HM8.out 0 rfl
    refine wpS_this [0, 1, 2, 3, 4] rfl (by kernel_rfl) (by simp only [pickL, nthL, List.cons_append, List.nil_append]; rfl) ?_
    repeat (go_big_quiet_step (fail))
    refine wpQuiet_nil ?_
    clear Cb2 Cb3
    refine wpS_nil ?_
    refine then_normal ?_
    refine wp_cond_true rfl ?_
    refine wp_seq ?_
    refine wp_region_N [(0, 1), (1, 1), (2, 1), (3, 1), (4, 3), (5, 1)] (by kernel_rfl) ?_
    have Cb2 := Mem.cell HM8.out 1 rfl
    have Cb3 := Mem.cell HM8.out 0 rfl
    refine wpS_this [0, 1, 2, 3] rfl (by kernel_rfl) (by simp only [pickL, nthL, List.cons_append, List.nil_append]; rfl) ?_
    repeat (go_big_quiet_step (fail))
    refine wpQuiet_nil ?_
    clear Cb2 Cb3
    refine wpS_does2 (i := 4) (d := some 15) (rem := [_, _, _]) (out := [_, _, _]) rfl (by rfl) rfl Try.call29 (rcmp_d a1 b1) rfl rfl HM8.out [] rfl covS_nil rfl rfl ?_
    rintro W10 hm9 -
    have HM11 := Lib.hid hm9
    clear hm9
    simp only [Act.put, List.setIfInBounds_toArray, List.set_cons_succ, List.set_cons_zero]
    refine wpS_this [5] rfl (by kernel_rfl) (by simp only [pickL, nthL, List.cons_append, List.nil_append]; rfl) ?_
    repeat (go_big_quiet_step (fail))
    refine wpQuiet_nil ?_
    refine wpS_nil ?_
    refine then_normal ?_
    refine wp_ret ?_
    refine then_ret ?_
    refine bodyPost_ret (results_tmp rfl _ _ _) rfl ?_
    rw [hc.out]
    exact does_ret (Mem.only (M := [_]) HM11.out [2] rfl) rfl rfl
  · have g1 : (a1 != b1) = false := by simpa using h1
    have g2 : (a2 != b2) = true := bne_iff_ne.2 h2
    replace hc := Lib.hid hc
    clear h1 h2
    refine wp_region_N [(0, 1), (1, 1), (2, 1), (3, 1), (4, 1)] (by kernel_rfl) ?_
    have Cb2 := Mem.cell HM8.out 1 rfl
    have Cb3 := Mem.cell HM8.out 0 rfl
    refine wpS_this [0, 1, 2, 3, 4] rfl (by kernel_rfl) (by simp only [pickL, nthL, List.cons_append, List.nil_append]; rfl) ?_
    repeat (go_big_quiet_step (fail))
    refine wpQuiet_nil ?_
    clear Cb2 Cb3
    refine wpS_nil ?_
    refine then_normal ?_
    refine wp_cond_false rfl ?_
    refine wp_skip ?_
    refine then_normal ?_
    refine wp_seq ?_
    refine wp_seq ?_
    refine wp_region_N [(0, 1), (1, 1), (2, 1), (3, 1), (4, 1)] (by kernel_rfl) ?_
    have Cb2 := Mem.cell HM8.out 1 rfl
    have Cb3 := Mem.cell HM8.out 0 rfl
    refine wpS_this [0, 1, 2, 3, 4] rfl (by kernel_rfl) (by simp only [pickL, nthL, List.cons_append, List.nil_append]; rfl) ?_
    repeat (go_big_quiet_step (fail))
    refine wpQuiet_nil ?_
    clear Cb2 Cb3
    refine wpS_nil ?_
    refine then_normal ?_
    refine wp_cond_true rfl ?_
    refine wp_seq ?_
    refine wp_region_N [(0, 1), (1, 1), (2, 1), (3, 1), (4, 3), (5, 1)] (by kernel_rfl) ?_
    have Cb2 := Mem.cell HM8.out 1 rfl
    have Cb3 := Mem.cell HM8.out 0 rfl
    refine wpS_this [0, 1, 2, 3] rfl (by kernel_rfl) (by simp only [pickL, nthL, List.cons_append, List.nil_append]; rfl) ?_
    repeat (go_big_quiet_step (fail))
    refine wpQuiet_nil ?_
    clear Cb2 Cb3
    refine wpS_does2 (i := 4) (d := some 25) (rem := [_, _, _]) (out := [_, _, _]) rfl (by rfl) rfl Try.call29 (rcmp_d a2 b2) rfl rfl HM8.out [] rfl covS_nil rfl rfl ?_
    rintro W13 hm12 -
    have HM14 := Lib.hid hm12
    clear hm12
    simp only [Act.put, List.setIfInBounds_toArray, List.set_cons_succ, List.set_cons_zero]
    refine wpS_this [5] rfl (by kernel_rfl) (by simp only [pickL, nthL, List.cons_append, List.nil_append]; rfl) ?_
    repeat (go_big_quiet_step (fail))
    refine wpQuiet_nil ?_
    refine wpS_nil ?_
    refine then_normal ?_
    refine wp_ret ?_
    refine then_ret ?_
    refine bodyPost_ret (results_tmp rfl _ _ _) rfl ?_
    rw [hc.out]
    exact does_ret (Mem.only (M := [_]) HM14.out [2] rfl) rfl rfl
  · have g1 : (a1 != b1) = false := by simpa using h1
    have g2 : (a2 != b2) = false := by simpa using h2
    have g3 : ((sa.length : Int) != (sb.length : Int)) = true := bne_iff_ne.2 (by dsimp only at h3; omega)
    replace hc := Lib.hid hc
    clear h1 h2 h3
    refine wp_region_N [(0, 1), (1, 1), (2, 1), (3, 1), (4, 1)] (by kernel_rfl) ?_
    have Cb2 := Mem.cell HM8.out 1 rfl
    have Cb3 := Mem.cell HM8.out 0 rfl
    refine wpS_this [0, 1, 2, 3, 4] rfl (by kernel_rfl) (by simp only [pickL, nthL, List.cons_append, List.nil_append]; rfl) ?_
    repeat (go_big_quiet_step (fail))
    refine wpQuiet_nil ?_
    clear Cb2 Cb3
    refine wpS_nil ?_
    refine then_normal ?_
    refine wp_cond_false rfl ?_
    refine wp_skip ?_
    refine then_normal ?_
    refine wp_seq ?_
    refine wp_seq ?_
    refine wp_region_N [(0, 1), (1, 1), (2, 1), (3, 1), (4, 1)] (by kernel_rfl) ?_
    have Cb2 := Mem.cell HM8.out 1 rfl
    have Cb3 := Mem.cell HM8.out 0 rfl
    refine wpS_this [0, 1, 2, 3, 4] rfl (by kernel_rfl) (by simp only [pickL, nthL, List.cons_append, List.nil_append]; rfl) ?_
    repeat (go_big_quiet_step (fail))
    refine wpQuiet_nil ?_
    clear Cb2 Cb3
    refine wpS_nil ?_
    refine then_normal ?_
    refine wp_cond_false rfl ?_
    refine wp_skip ?_
    refine then_normal ?_
    refine wp_seq ?_
    refine wp_seq ?_
    refine wp_region_N [(0, 1), (1, 1), (2, 1), (3, 1), (4, 1), (5, 1), (6, 1)] (by kernel_rfl) ?_
    have Cb2 := Mem.cell HM8.out 1 rfl
    have Cb3 := Mem.cell HM8.out 0 rfl
    refine wpS_this [0, 1, 2, 3, 4, 5, 6] rfl (by kernel_rfl) (by simp only [pickL, nthL, List.cons_append, List.nil_append]; rfl) ?_
    repeat (go_big_quiet_step (fail))
    refine wpQuiet_nil ?_
    clear Cb2 Cb3
    refine wpS_nil ?_
    refine then_normal ?_
    refine wp_cond_true rfl ?_
    refine wp_seq ?_
    refine wp_region_N [(0, 1), (1, 1), (2, 1), (3, 1), (4, 1), (5, 1), (6, 3), (7, 1)] (by kernel_rfl) ?_
    have Cb2 := Mem.cell HM8.out 1 rfl
    have Cb3 := Mem.cell HM8.out 0 rfl
    refine wpS_this [0, 1, 2, 3, 4, 5] rfl (by kernel_rfl) (by simp only [pickL, nthL, List.cons_append, List.nil_append]; rfl) ?_
    repeat (go_big_quiet_step (fail))
    refine wpQuiet_nil ?_
    clear Cb2 Cb3
    refine wpS_does2 (i := 6) (d := some 39) (rem := [_, _, _]) (out := [_, _, _]) rfl (by rfl) rfl Try.call29 (rcmp_d sa.length sb.length) rfl rfl HM8.out [] rfl covS_nil rfl rfl ?_
    rintro W16 hm15 -
    have HM17 := Lib.hid hm15
    clear hm15
    simp only [Act.put, List.setIfInBounds_toArray, List.set_cons_succ, List.set_cons_zero]
    refine wpS_this [7] rfl (by kernel_rfl) (by simp only [pickL, nthL, List.cons_append, List.nil_append]; rfl) ?_
    repeat (go_big_quiet_step (fail))
    refine wpQuiet_nil ?_
    refine wpS_nil ?_
    refine then_normal ?_
    refine wp_ret ?_
    refine then_ret ?_
    refine bodyPost_ret (results_tmp rfl _ _ _) rfl ?_
    rw [hc.out]
    exact does_ret (Mem.only (M := [_]) HM17.out [2] rfl) rfl rfl
  · have g1 : (a1 != b1) = false := by simpa using h1
    have g2 : (a2 != b2) = false := by simpa using h2
    have g3 : ((sa.length : Int) != (sb.length : Int)) = false := by dsimp only at h3; rw [h3]; exact bne_self_eq_false _
    replace hc := Lib.hid hc
    have hl := Lib.hid h3
    replace hl : Hid (sa.length = sb.length) := hl
    clear h1 h2 h3
    refine wp_region_N [(0, 1), (1, 1), (2, 1), (3, 1), (4, 1)] (by kernel_rfl) ?_
    have Cb2 := Mem.cell HM8.out 1 rfl
    have Cb3 := Mem.cell HM8.out 0 rfl
    refine wpS_this [0, 1, 2, 3, 4] rfl (by kernel_rfl) (by simp only [pickL, nthL, List.cons_append, List.nil_append]; rfl) ?_
    repeat (go_big_quiet_step (fail))
    refine wpQuiet_nil ?_
    clear Cb2 Cb3
    refine wpS_nil ?_
    refine then_normal ?_
    refine wp_cond_false rfl ?_
    refine wp_skip ?_
    refine then_normal ?_
    refine wp_seq ?_
    refine wp_seq ?_
    refine wp_region_N [(0, 1), (1, 1), (2, 1), (3, 1), (4, 1)] (by kernel_rfl) ?_
    have Cb2 := Mem.cell HM8.out 1 rfl
    have Cb3 := Mem.cell HM8.out 0 rfl
    refine wpS_this [0, 1, 2, 3, 4] rfl (by kernel_rfl) (by simp only [pickL, nthL, List.cons_append, List.nil_append]; rfl) ?_
    repeat (go_big_quiet_step (fail))
    refine wpQuiet_nil ?_
    clear Cb2 Cb3
    refine wpS_nil ?_
    refine then_normal ?_
    refine wp_cond_false rfl ?_
    refine wp_skip ?_
    refine then_normal ?_
    refine wp_seq ?_
    refine wp_seq ?_
    refine wp_region_N [(0, 1), (1, 1), (2, 1), (3, 1), (4, 1), (5, 1), (6, 1)] (by kernel_rfl) ?_
    have Cb2 := Mem.cell HM8.out 1 rfl
    have Cb3 := Mem.cell HM8.out 0 rfl
    refine wpS_this [0, 1, 2, 3, 4, 5, 6] rfl (by kernel_rfl) (by simp only [pickL, nthL, List.cons_append, List.nil_append]; rfl) ?_
    repeat (go_big_quiet_step (fail))
    refine wpQuiet_nil ?_
    clear Cb2 Cb3
    refine wpS_nil ?_
    refine then_normal ?_
    refine wp_cond_false rfl ?_
    refine wp_skip ?_
    refine then_normal ?_
    refine wp_seq ?_
    refine wp_seq ?_
    refine wp_region_N [(0, 1), (1, 1), (2, 1), (3, 1)] (by kernel_rfl) ?_
    have Cb2 := Mem.cell HM8.out 1 rfl
    refine wpS_this [0, 1, 2, 3] rfl (by kernel_rfl) (by simp only [pickL, nthL, List.cons_append, List.nil_append]; rfl) ?_
    repeat (go_big_quiet_step (fail))
    refine wpQuiet_nil ?_
    clear Cb2
    refine wpS_nil ?_
    refine then_normal ?_
    refine wp_block ?_
    refine wp_loop_F [4, 5, 43, 44, 45, 46, 47, 48, 49, 50, 51, 52, 53, 54, 55, 56, 57, 58, 59, 60, 61, 62, 63, 64, 65, 66, 67, 68] (fun n vs W' => ∃ k : Nat, n = sa.length - k ∧ vs 43 = .int .i64 (k : Int) ∧ k ≤ sa.length ∧ cmpL (sa.drop k) (sb.drop k) = cmpL sa sb ∧ Mem [boxT b3 (.cells #[.int .i64 a1, .int .i64 a2, .slice pa sa.length ca] 24 (0, 0)), boxT b7 (.cells #[.int .i64 b1, .int .i64 b2, .slice pb sb.length cb] 24 (0, 0)), R] H w W') (n0 := sa.length) ?_ ?_
    · exact ⟨0, rfl, rfl, Nat.zero_le _, rfl, (Mem.only (M := [_, _, _]) HM8.out [1, 0, 0] rfl)⟩
    rintro n vs W' ⟨k, rfl, e43, hk, hf, hm⟩
    simp only [putAll, List.map_cons, List.map_nil, Act.put, List.setIfInBounds_toArray, List.set_cons_succ, List.set_cons_zero]
    rw [e43]
    clear e43
    have hf := Lib.hid hf
    have HM18 := Lib.hid hm
    clear hm
    refine wp_seq ?_
    refine wp_region_N [(0, 1)] (by kernel_rfl) ?_
    refine wpS_this [0] rfl (by kernel_rfl) (by simp only [pickL, nthL, List.cons_append, List.nil_append]; rfl) ?_
    repeat (go_big_quiet_step (fail))
    refine wpQuiet_nil ?_
    refine wpS_nil ?_
    refine then_normal ?_
    refine wp_seq ?_
    refine wp_cond_split rfl (fun h19 => ?_) (fun h19 => ?_)
    · have hk1 : k + 1 ≤ sa.length := by have : (k : Int) < ((sa.length : Nat) : Int) := (by simpa using h19); omega
      clear h19
      obtain ⟨x, hx'⟩ : ∃ y, sa[k]? = some y := ⟨_, List.getElem?_eq_getElem (hk1)⟩
      have hx := Lib.hid hx'
      clear hx'
      obtain ⟨y, hy'⟩ : ∃ y, sb[k]? = some y := ⟨_, List.getElem?_eq_getElem (by have := hl.out; omega)⟩
      have hy := Lib.hid hy'
      clear hy'
      refine wp_skip ?_
      refine then_normal ?_
      refine wp_seq ?_
      refine wp_block ?_
      refine wp_seq ?_
      refine wp_region_N [(0, 1), (1, 1)] (by kernel_rfl) ?_
      refine wpS_this [0, 1] rfl (by kernel_rfl) (by simp only [pickL, nthL, List.cons_append, List.nil_append]; rfl) ?_
      repeat (go_big_quiet_step (fail))
      refine wpQuiet_nil ?_
      refine wpS_nil ?_
      refine then_normal ?_
      refine wp_seq ?_
      by_cases hxy : cmpI x y = 0
      · have hxe : x = y := (cmpI_zero _ _).1 hxy
        have g4 : (x != y) = false := by simp [hxe]
        clear hxe
        replace hxy := Lib.hid hxy
        refine wp_region_M (fun k => k ∈ ([] : List Nat)) [(0, 1), (1, 1), (2, 1), (3, 1), (4, 1), (5, 1), (6, 1), (7, 1), (8, 1), (9, 1), (10, 1)] (by kernel_rfl) (by kernel_rfl) HM18.out ?_
        intro W20 hm21
        have HM22 := Lib.hid hm21
        clear hm21
        have Cb2 := Mem.cell HM22.out 0 rfl
        refine wpS_this [0, 1, 2] rfl (by kernel_rfl) (by simp only [pickL, nthL, List.cons_append, List.nil_append]; rfl) ?_
        repeat (go_big_quiet_step (fail))
        refine wpQuiet_nil ?_
        clear Cb2
        refine wpS_index (E := elemI) (i := 3) (d := some 49) rfl (by rfl) rfl rfl rfl (HM22.out.row 2 rfl ha.row) (hx.out) rfl ?_
        intro eb23 eo24 hc25
        simp only [Act.put, List.setIfInBounds_toArray, List.set_cons_succ, List.set_cons_zero]
        refine wpS_load1 (i := 4) (d := some 50) (u := .int .i64 x) rfl (by rfl) rfl rfl (hc25 0 _ rfl) Try.underlying3 rfl rfl ?_
        simp only [Act.put, List.setIfInBounds_toArray, List.set_cons_succ, List.set_cons_zero]
        have Cb3 := Mem.cell HM22.out 1 rfl
        refine wpS_this [5, 6, 7] rfl (by kernel_rfl) (by simp only [pickL, nthL, List.cons_append, List.nil_append]; rfl) ?_
        repeat (go_big_quiet_step (fail))
        refine wpQuiet_nil ?_
        clear Cb3
        refine wpS_index (E := elemI) (i := 8) (d := some 54) rfl (by rfl) rfl rfl rfl (HM22.out.row 2 rfl hb.row) (hy.out) rfl ?_
        intro eb26 eo27 hc28
        simp only [Act.put, List.setIfInBounds_toArray, List.set_cons_succ, List.set_cons_zero]
        refine wpS_load1 (i := 9) (d := some 55) (u := .int .i64 y) rfl (by rfl) rfl rfl (hc28 0 _ rfl) Try.underlying3 rfl rfl ?_
        simp only [Act.put, List.setIfInBounds_toArray, List.set_cons_succ, List.set_cons_zero]
        refine wpS_this [10] rfl (by kernel_rfl) (by simp only [pickL, nthL, List.cons_append, List.nil_append]; rfl) ?_
        repeat (go_big_quiet_step (fail))
        refine wpQuiet_nil ?_
        refine wpS_nil ?_
        refine then_normal ?_
        refine wp_cond_false rfl ?_
        refine wp_skip ?_
        refine block_normal ?_
        refine then_normal ?_
        refine wp_region_N [(0, 1), (1, 1)] (by kernel_rfl) ?_
        refine wpS_this [0, 1] rfl (by kernel_rfl) (by simp only [pickL, nthL, List.cons_append, List.nil_append]; rfl) ?_
        repeat (go_big_quiet_step (fail))
        refine wpQuiet_nil ?_
        refine wpS_nil ?_
        refine then_normal ?_
        refine ⟨by kernel_rfl, ?_⟩
        refine ⟨sa.length - (k + 1), by omega, k + 1, rfl, rfl, hk1, ?_, (Mem.only (M := [_, _, _]) HM22.out [0, 0, 0] rfl)⟩
        rw [← hf.out, cmpL_step hx.out hy.out, orI_next hxy.out]
      · have hxe : x ≠ y := fun h => hxy ((cmpI_zero _ _).2 h)
        have g4 : (x != y) = true := bne_iff_ne.2 hxe
        clear hxe
        replace hxy := Lib.hid hxy
        refine wp_region_M (fun k => k ∈ ([] : List Nat)) [(0, 1), (1, 1), (2, 1), (3, 1), (4, 1), (5, 1), (6, 1), (7, 1), (8, 1), (9, 1), (10, 1)] (by kernel_rfl) (by kernel_rfl) HM18.out ?_
        intro W29 hm30
        have HM31 := Lib.hid hm30
        clear hm30
        have Cb2 := Mem.cell HM31.out 0 rfl
        refine wpS_this [0, 1, 2] rfl (by kernel_rfl) (by simp only [pickL, nthL, List.cons_append, List.nil_append]; rfl) ?_
        repeat (go_big_quiet_step (fail))
        refine wpQuiet_nil ?_
        clear Cb2
        refine wpS_index (E := elemI) (i := 3) (d := some 49) rfl (by rfl) rfl rfl rfl (HM31.out.row 2 rfl ha.row) (hx.out) rfl ?_
        intro eb32 eo33 hc34
        simp only [Act.put, List.setIfInBounds_toArray, List.set_cons_succ, List.set_cons_zero]
        refine wpS_load1 (i := 4) (d := some 50) (u := .int .i64 x) rfl (by rfl) rfl rfl (hc34 0 _ rfl) Try.underlying3 rfl rfl ?_
        simp only [Act.put, List.setIfInBounds_toArray, List.set_cons_succ, List.set_cons_zero]
        have Cb3 := Mem.cell HM31.out 1 rfl
        refine wpS_this [5, 6, 7] rfl (by kernel_rfl) (by simp only [pickL, nthL, List.cons_append, List.nil_append]; rfl) ?_
        repeat (go_big_quiet_step (fail))
        refine wpQuiet_nil ?_
        clear Cb3
        refine wpS_index (E := elemI) (i := 8) (d := some 54) rfl (by rfl) rfl rfl rfl (HM31.out.row 2 rfl hb.row) (hy.out) rfl ?_
        intro eb35 eo36 hc37
        simp only [Act.put, List.setIfInBounds_toArray, List.set_cons_succ, List.set_cons_zero]
        refine wpS_load1 (i := 9) (d := some 55) (u := .int .i64 y) rfl (by rfl) rfl rfl (hc37 0 _ rfl) Try.underlying3 rfl rfl ?_
        simp only [Act.put, List.setIfInBounds_toArray, List.set_cons_succ, List.set_cons_zero]
        refine wpS_this [10] rfl (by kernel_rfl) (by simp only [pickL, nthL, List.cons_append, List.nil_append]; rfl) ?_
        repeat (go_big_quiet_step (fail))
        refine wpQuiet_nil ?_
        refine wpS_nil ?_
        refine then_normal ?_
        refine wp_cond_true rfl ?_
        refine wp_seq ?_
        refine wp_region_M (fun k => k ∈ ([] : List Nat)) [(0, 1), (1, 1), (2, 1), (3, 1), (4, 1), (5, 1), (6, 1), (7, 1), (8, 1), (9, 1), (10, 3), (11, 1)] (by kernel_rfl) (by kernel_rfl) HM31.out ?_
        intro W38 hm39
        have HM40 := Lib.hid hm39
        clear hm39
        have Cb2 := Mem.cell HM40.out 0 rfl
        refine wpS_this [0, 1, 2] rfl (by kernel_rfl) (by simp only [pickL, nthL, List.cons_append, List.nil_append]; rfl) ?_
        repeat (go_big_quiet_step (fail))
        refine wpQuiet_nil ?_
        clear Cb2
        refine wpS_index (E := elemI) (i := 3) (d := some 60) rfl (by rfl) rfl rfl rfl (HM40.out.row 2 rfl ha.row) (hx.out) rfl ?_
        intro eb41 eo42 hc43
        simp only [Act.put, List.setIfInBounds_toArray, List.set_cons_succ, List.set_cons_zero]
        refine wpS_load1 (i := 4) (d := some 61) (u := .int .i64 x) rfl (by rfl) rfl rfl (hc43 0 _ rfl) Try.underlying3 rfl rfl ?_
        simp only [Act.put, List.setIfInBounds_toArray, List.set_cons_succ, List.set_cons_zero]
        have Cb3 := Mem.cell HM40.out 1 rfl
        refine wpS_this [5, 6, 7] rfl (by kernel_rfl) (by simp only [pickL, nthL, List.cons_append, List.nil_append]; rfl) ?_
        repeat (go_big_quiet_step (fail))
        refine wpQuiet_nil ?_
        clear Cb3
        refine wpS_index (E := elemI) (i := 8) (d := some 65) rfl (by rfl) rfl rfl rfl (HM40.out.row 2 rfl hb.row) (hy.out) rfl ?_
        intro eb44 eo45 hc46
        simp only [Act.put, List.setIfInBounds_toArray, List.set_cons_succ, List.set_cons_zero]
        refine wpS_load1 (i := 9) (d := some 66) (u := .int .i64 y) rfl (by rfl) rfl rfl (hc46 0 _ rfl) Try.underlying3 rfl rfl ?_
        simp only [Act.put, List.setIfInBounds_toArray, List.set_cons_succ, List.set_cons_zero]
        refine wpS_does2 (i := 10) (d := some 67) (rem := [_, _, _]) (out := [_, _, _]) rfl (by rfl) rfl Try.call29 (rcmp_d x y) rfl rfl HM40.out [] rfl covS_nil rfl rfl ?_
        rintro W48 hm47 -
        have HM49 := Lib.hid hm47
        clear hm47
        simp only [Act.put, List.setIfInBounds_toArray, List.set_cons_succ, List.set_cons_zero]
        refine wpS_this [11] rfl (by kernel_rfl) (by simp only [pickL, nthL, List.cons_append, List.nil_append]; rfl) ?_
        repeat (go_big_quiet_step (fail))
        refine wpQuiet_nil ?_
        refine wpS_nil ?_
        refine then_normal ?_
        refine wp_ret ?_
        refine block_ret (then_ret (then_ret (block_ret (then_ret ?_))))
        refine bodyPost_ret (results_tmp rfl _ _ _) rfl ?_
        have hd : cmpL sa sb = cmpI x y := by rw [← hf.out, cmpL_step hx.out hy.out, orI_self hxy.out]
        rw [hc.out]
        show _ = Ending.returned (.int .i64 (cmpL sa sb)) ∧ _
        rw [hd]
        exact does_ret (Mem.only (M := [_]) HM49.out [2] rfl) rfl rfl
    · have hge : Hid (sa.length ≤ k) := Lib.hid (by have : ¬ (k : Int) < ((sa.length : Nat) : Int) := (by simpa using h19); omega)
      clear h19
      refine wp_exit ?_
      refine then_exit (then_exit (block_exit ?_))
      refine then_normal ?_
      refine wp_seq ?_
      refine wp_region_N [(0, 1)] (by kernel_rfl) ?_
      refine wpS_this [0] rfl (by kernel_rfl) (by simp only [pickL, nthL, List.cons_append, List.nil_append]; rfl) ?_
      repeat (go_big_quiet_step (fail))
      refine wpQuiet_nil ?_
      refine wpS_nil ?_
      refine then_normal ?_
      refine wp_ret ?_
      refine bodyPost_ret (results_tmp rfl _ _ _) rfl ?_
      have hd : cmpL sa sb = 0 := by
          have h1 := hge.out
          have h2 := hl.out
          rw [← hf.out, cmpL_end h1 hk (by omega), if_neg (by omega)]
      rw [hc.out]
      show _ = Ending.returned (.int .i64 (cmpL sa sb)) ∧ _
      rw [hd]
      exact does_ret (Mem.only (M := [_]) HM18.out [2] rfl) rfl rfl

set_option maxHeartbeats 4000000 in
set_option maxRecDepth 100000 in
theorem rjoin_d (R : At) (va : Value) (a1 a2 : Int) (sa : List Int) (ha : Reads elemI R va sa) (la : sa.length ≤ 1000) (vb : Value) (b1 b2 : Int) (sb : List Int) (hb : Reads elemI R vb sb) (lb : sb.length ≤ 1000) (j1 j2 : Int) (sj : List Int) (hj : joinP (a1, a2, sa) (b1, b2, sb) = (j1, j2, sj)) : DoesU Try.prog 18 #[.agg #[.int .i64 a1, .int .i64 a2, va], .agg #[.int .i64 b1, .int .i64 b2, vb]] [R] (fun u => [planT u (j1, j2, sj), R]) := by
  intro w H hp
  have HM0 := Lib.hid (mem_refl hp)
  clear hp
  obtain ⟨pa, ca, rfl⟩ := row_form (Mem.src HM0.out 0 rfl ha)
  obtain ⟨pb, cb, rfl⟩ := row_form (Mem.src HM0.out 0 rfl hb)
  go_enter Try.func18, Try.ntmps18
  refine wp_seq ?_
  refine wp_region_N [(0, 3), (1, 3), (2, 3)] (by kernel_rfl) ?_
  refine wpS_boxA (i := 0) (dd := 2) rfl (by rfl) rfl rfl HM0.out covS_nil rfl ?_
  rintro b3 W2 hm1 -
  have HM4 := Lib.hid hm1
  clear hm1
  simp only [Act.put, List.setIfInBounds_toArray, List.set_cons_succ, List.set_cons_zero]
  refine wpS_boxA (i := 1) (dd := 3) rfl (by rfl) rfl rfl HM4.out covS_nil rfl ?_
  rintro b7 W6 hm5 -
  have HM8 := Lib.hid hm5
  clear hm5
  simp only [Act.put, List.setIfInBounds_toArray, List.set_cons_succ, List.set_cons_zero]
  refine wpS_alloc (i := 2) (dd := 4) (z := .agg #[.int .i64 0, .int .i64 0, .slice none 0 0]) (cs := #[.int .i64 0, .int .i64 0, .slice none 0 0]) rfl (by rfl) rfl (by kernel_rfl) rfl HM8.out covS_nil rfl ?_
  rintro b11 W10 hm9 -
  have HM12 := Lib.hid hm9
  clear hm9
  simp only [Act.put, List.setIfInBounds_toArray, List.set_cons_succ, List.set_cons_zero]
  refine wpS_nil ?_
  refine then_normal ?_
  refine wp_seq ?_
  refine wp_seq ?_
  rcases join_ways (a1, a2, sa) (b1, b2, sb) with ⟨h1, h2⟩ | ⟨h1, h2⟩
  · have g1 : decide (0 < cmpP (b1, b2, sb) (a1, a2, sa)) = true := decide_eq_true h1
    have hq := hj.symm.trans h2
    simp only [Prod.mk.injEq] at hq
    obtain ⟨r1, r2, r3⟩ := hq
    subst j1
    subst j2
    subst sj
    clear h1 h2 hj
    refine wp_region_N [(0, 1), (1, 1), (2, 3), (3, 1)] (by kernel_rfl) ?_
    have Cb3 := Mem.cell HM12.out 1 rfl
    have Cb2 := Mem.cell HM12.out 2 rfl
    refine wpS_this [0, 1] rfl (by kernel_rfl) (by simp only [pickL, nthL, List.cons_append, List.nil_append]; rfl) ?_
    repeat (go_big_quiet_step (fail))
    refine wpQuiet_nil ?_
    clear Cb3 Cb2
    refine wpS_does2 (i := 2) (d := some 7) (rem := [_, _, _]) (out := [_, _, _, _]) rfl (by rfl) rfl Try.call15 (rcompare_d R _ b1 b2 sb hb lb _ a1 a2 sa ha la) rfl rfl HM12.out [3] rfl covS_nil rfl rfl ?_
    rintro W14 hm13 -
    have HM15 := Lib.hid hm13
    clear hm13
    simp only [Act.put, List.setIfInBounds_toArray, List.set_cons_succ, List.set_cons_zero]
    refine wpS_this [3] rfl (by kernel_rfl) (by simp only [pickL, nthL, List.cons_append, List.nil_append]; rfl) ?_
    repeat (go_big_quiet_step (fail))
    refine wpQuiet_nil ?_
    refine wpS_nil ?_
    refine then_normal ?_
    refine wp_cond_true rfl ?_
    refine wp_region_N [(0, 1), (1, 3)] (by kernel_rfl) ?_
    have Cb3 := Mem.cell HM15.out 2 rfl
    refine wpS_this [0] rfl (by kernel_rfl) (by simp only [pickL, nthL, List.cons_append, List.nil_append]; rfl) ?_
    repeat (go_big_quiet_step (fail))
    refine wpQuiet_nil ?_
    clear Cb3
    refine wpS_storeA (i := 1) (L2 := [_, _, _]) (cs' := [_, _, _]) rfl (by rfl) rfl rfl rfl (by kernel_rfl) (by rfl) HM15.out 3 rfl rfl rfl rfl covS_nil rfl ?_
    rintro W17 hm16 -
    have HM18 := Lib.hid hm16
    clear hm16
    refine wpS_nil ?_
    refine then_normal ?_
    refine wp_seq ?_
    refine wp_region_N [(0, 1), (1, 1), (2, 3), (3, 1), (4, 3)] (by kernel_rfl) ?_
    have Cb2 := Mem.cell HM18.out 0 rfl
    refine wpS_this [0, 1] rfl (by kernel_rfl) (by simp only [pickL, nthL, List.cons_append, List.nil_append]; rfl) ?_
    repeat (go_big_quiet_step (fail))
    refine wpQuiet_nil ?_
    clear Cb2
    have hn21 := Mem.nilRow elemI HM18.out
    have HM22 := Lib.hid hn21
    clear hn21
    refine wpS_append (E := elemI) (i := 2) (d := some 12) (L2 := [_, _, _, _]) rfl (by rfl) rfl HM22.out 0 rfl rfl ((HM22.out.src 2 rfl hb)) rfl (by show (0 + sb.length) * 8 ≤ _; omega) rfl covS_nil rfl ?_
    rintro v23 W24 hm25 -
    rw [List.nil_append] at hm25
    obtain ⟨q, k, rfl⟩ := row_form (Mem.src hm25 0 rfl rowT_reads)
    have HM26 := Lib.hid hm25
    clear hm25
    simp only [Act.put, List.setIfInBounds_toArray, List.set_cons_succ, List.set_cons_zero]
    refine wpS_this [3] rfl (by kernel_rfl) (by simp only [pickL, nthL, List.cons_append, List.nil_append]; rfl) ?_
    repeat (go_big_quiet_step (fail))
    refine wpQuiet_nil ?_
    refine wpS_store1 (i := 4) (L2 := [_, _, _, _]) (cs' := [.int .i64 b1, .int .i64 b2, .slice q sb.length k]) rfl (by rfl) rfl rfl rfl rfl (by kernel_rfl) rfl HM26.out 1 rfl rfl rfl rfl covS_nil rfl ?_
    rintro W28 hm27 -
    have HM29 := Lib.hid hm27
    clear hm27
    refine wpS_nil ?_
    refine then_normal ?_
    refine wp_seq ?_
    refine wp_region_N [(0, 1), (1, 3)] (by kernel_rfl) ?_
    have Cb2 := Mem.cell HM29.out 0 rfl
    refine wpS_this [0] rfl (by kernel_rfl) (by simp only [pickL, nthL, List.cons_append, List.nil_append]; rfl) ?_
    repeat (go_big_quiet_step (fail))
    refine wpQuiet_nil ?_
    clear Cb2
    refine wpS_storeA (i := 1) (L2 := [_, _, _, _]) (cs' := [_, _, _]) rfl (by rfl) rfl rfl rfl (by kernel_rfl) (by rfl) HM29.out 3 rfl rfl rfl rfl covS_nil rfl ?_
    rintro W31 hm30 -
    have HM32 := Lib.hid hm30
    clear hm30
    refine wpS_nil ?_
    refine then_normal ?_
    refine wp_ret ?_
    refine ret_cell rfl HM32.out 0 rfl rfl Try.underlying24 rfl (by kernel_rfl) rfl ?_
    exact doesU_ret (post := fun u => [planT u (b1, b2, sb), R]) (Mem.toPlan (Mem.only (M := [_, _]) HM32.out [2, 2] rfl)) rfl
  · have g1 : decide (0 < cmpP (b1, b2, sb) (a1, a2, sa)) = false := decide_eq_false h1
    have hq := hj.symm.trans h2
    simp only [Prod.mk.injEq] at hq
    obtain ⟨r1, r2, r3⟩ := hq
    subst j1
    subst j2
    subst sj
    clear h1 h2 hj
    refine wp_region_N [(0, 1), (1, 1), (2, 3), (3, 1)] (by kernel_rfl) ?_
    have Cb3 := Mem.cell HM12.out 1 rfl
    have Cb2 := Mem.cell HM12.out 2 rfl
    refine wpS_this [0, 1] rfl (by kernel_rfl) (by simp only [pickL, nthL, List.cons_append, List.nil_append]; rfl) ?_
    repeat (go_big_quiet_step (fail))
    refine wpQuiet_nil ?_
    clear Cb3 Cb2
    refine wpS_does2 (i := 2) (d := some 7) (rem := [_, _, _]) (out := [_, _, _, _]) rfl (by rfl) rfl Try.call15 (rcompare_d R _ b1 b2 sb hb lb _ a1 a2 sa ha la) rfl rfl HM12.out [3] rfl covS_nil rfl rfl ?_
    rintro W34 hm33 -
    have HM35 := Lib.hid hm33
    clear hm33
    simp only [Act.put, List.setIfInBounds_toArray, List.set_cons_succ, List.set_cons_zero]
    refine wpS_this [3] rfl (by kernel_rfl) (by simp only [pickL, nthL, List.cons_append, List.nil_append]; rfl) ?_
    repeat (go_big_quiet_step (fail))
    refine wpQuiet_nil ?_
    refine wpS_nil ?_
    refine then_normal ?_
    refine wp_cond_false rfl ?_
    refine wp_skip ?_
    refine then_normal ?_
    refine wp_seq ?_
    refine wp_region_N [(0, 1), (1, 1), (2, 3), (3, 1), (4, 3)] (by kernel_rfl) ?_
    have Cb2 := Mem.cell HM35.out 3 rfl
    refine wpS_this [0, 1] rfl (by kernel_rfl) (by simp only [pickL, nthL, List.cons_append, List.nil_append]; rfl) ?_
    repeat (go_big_quiet_step (fail))
    refine wpQuiet_nil ?_
    clear Cb2
    have hn38 := Mem.nilRow elemI HM35.out
    have HM39 := Lib.hid hn38
    clear hn38
    refine wpS_append (E := elemI) (i := 2) (d := some 12) (L2 := [_, _, _, _]) rfl (by rfl) rfl HM39.out 0 rfl rfl ((HM39.out.src 1 rfl ha)) rfl (by show (0 + sa.length) * 8 ≤ _; omega) rfl covS_nil rfl ?_
    rintro v40 W41 hm42 -
    rw [List.nil_append] at hm42
    obtain ⟨q, k, rfl⟩ := row_form (Mem.src hm42 0 rfl rowT_reads)
    have HM43 := Lib.hid hm42
    clear hm42
    simp only [Act.put, List.setIfInBounds_toArray, List.set_cons_succ, List.set_cons_zero]
    refine wpS_this [3] rfl (by kernel_rfl) (by simp only [pickL, nthL, List.cons_append, List.nil_append]; rfl) ?_
    repeat (go_big_quiet_step (fail))
    refine wpQuiet_nil ?_
    refine wpS_store1 (i := 4) (L2 := [_, _, _, _]) (cs' := [.int .i64 a1, .int .i64 a2, .slice q sa.length k]) rfl (by rfl) rfl rfl rfl rfl (by kernel_rfl) rfl HM43.out 4 rfl rfl rfl rfl covS_nil rfl ?_
    rintro W45 hm44 -
    have HM46 := Lib.hid hm44
    clear hm44
    refine wpS_nil ?_
    refine then_normal ?_
    refine wp_seq ?_
    refine wp_region_N [(0, 1), (1, 3)] (by kernel_rfl) ?_
    have Cb2 := Mem.cell HM46.out 0 rfl
    refine wpS_this [0] rfl (by kernel_rfl) (by simp only [pickL, nthL, List.cons_append, List.nil_append]; rfl) ?_
    repeat (go_big_quiet_step (fail))
    refine wpQuiet_nil ?_
    clear Cb2
    refine wpS_storeA (i := 1) (L2 := [_, _, _, _]) (cs' := [_, _, _]) rfl (by rfl) rfl rfl rfl (by kernel_rfl) (by rfl) HM46.out 3 rfl rfl rfl rfl covS_nil rfl ?_
    rintro W48 hm47 -
    have HM49 := Lib.hid hm47
    clear hm47
    refine wpS_nil ?_
    refine then_normal ?_
    refine wp_ret ?_
    refine ret_cell rfl HM49.out 0 rfl rfl Try.underlying24 rfl (by kernel_rfl) rfl ?_
    exact doesU_ret (post := fun u => [planT u (a1, a2, sa), R]) (Mem.toPlan (Mem.only (M := [_, _]) HM49.out [2, 2] rfl)) rfl

set_option maxHeartbeats 4000000 in
set_option maxRecDepth 100000 in
theorem rnext_d (R : At) (va : Value) (a1 a2 : Int) (sa : List Int) (ha : Reads elemI R va sa) (la : sa.length ≤ 1000) (n : Int) (vt : Value) (st : List Int) (ht : Reads elemI R vt st) (lt : st.length ≤ 1000) (f1 f2 : Int) (sf : List Int) (fe : Int) (hf : nextP (a1, a2, sa) n st = ((f1, f2, sf), fe)) : DoesU Try.prog 11 #[.agg #[.int .i64 a1, .int .i64 a2, va], .int .i64 n, vt] [R] (fun u => [nextT u (f1, f2, sf) fe, R]) := by
  intro w H hp
  have HM0 := Lib.hid (mem_refl hp)
  clear hp
  obtain ⟨pa, ca, rfl⟩ := row_form (Mem.src HM0.out 0 rfl ha)
  obtain ⟨pt, ct, rfl⟩ := row_form (Mem.src HM0.out 0 rfl ht)
  go_enter Try.func11, Try.ntmps11
  refine wp_seq ?_
  refine wp_region_N [(0, 3), (1, 3), (2, 1)] (by kernel_rfl) ?_
  refine wpS_boxA (i := 0) (dd := 3) rfl (by rfl) rfl rfl HM0.out covS_nil rfl ?_
  rintro b3 W2 hm1 -
  have HM4 := Lib.hid hm1
  clear hm1
  simp only [Act.put, List.setIfInBounds_toArray, List.set_cons_succ, List.set_cons_zero]
  refine wpS_alloc (i := 1) (dd := 6) (z := .agg #[.int .i64 0, .int .i64 0, .slice none 0 0]) (cs := #[.int .i64 0, .int .i64 0, .slice none 0 0]) rfl (by rfl) rfl (by kernel_rfl) rfl HM4.out covS_nil rfl ?_
  rintro b7 W6 hm5 -
  have HM8 := Lib.hid hm5
  clear hm5
  simp only [Act.put, List.setIfInBounds_toArray, List.set_cons_succ, List.set_cons_zero]
  refine wpS_this [2] rfl (by kernel_rfl) (by simp only [pickL, nthL, List.cons_append, List.nil_append]; rfl) ?_
  repeat (go_big_quiet_step (fail))
  refine wpQuiet_nil ?_
  refine wpS_nil ?_
  refine then_normal ?_
  refine wp_seq ?_
  refine wp_seq ?_
  rcases nextP_cases (a1, a2, sa) n st with ⟨hm, hq⟩ | ⟨hm, hn, hq⟩ | ⟨hm, hn, hg, hq⟩ | ⟨hm, hn, hg, hx, hq⟩ | ⟨hm, hn, hg, hx, hq⟩
  · have hq := hf.symm.trans hq
    simp only [Prod.mk.injEq] at hq
    obtain ⟨⟨r1, r2, r3⟩, r4⟩ := hq
    subst f1
    subst f2
    subst sf
    subst fe
    replace hm := Lib.hid hm
    clear hf
    refine wp_region_N [(0, 1), (1, 3), (2, 1), (3, 1), (4, 1), (5, 3), (6, 1), (7, 1), (8, 1), (9, 1), (10, 3), (11, 1), (12, 1)] (by kernel_rfl) ?_
    have Cb3 := Mem.cell HM8.out 1 rfl
    refine wpS_this [0] rfl (by kernel_rfl) (by simp only [pickL, nthL, List.cons_append, List.nil_append]; rfl) ?_
    repeat (go_big_quiet_step (fail))
    refine wpQuiet_nil ?_
    clear Cb3
    refine wpS_does1 (i := 1) (d := some 9) (rem := [_, _]) (out := [_, _, _]) rfl (by rfl) rfl Try.call13 (rmay_d R _ a1 a2 sa ha la) rfl HM8.out [2] rfl covS_nil rfl rfl ?_
    rintro W10 hm9 -
    rw [hm.out]
    have HM11 := Lib.hid hm9
    clear hm9
    simp only [Act.put, List.setIfInBounds_toArray, List.set_cons_succ, List.set_cons_zero]
    refine wpS_this [2, 3, 4] rfl (by kernel_rfl) (by simp only [pickL, nthL, List.cons_append, List.nil_append]; rfl) ?_
    repeat (go_big_quiet_step (fail))
    refine wpQuiet_nil ?_
    refine wpS_skip (i := 5) (d := some 13) rfl (by rfl) rfl ?_
    simp only [Act.put, List.setIfInBounds_toArray, List.set_cons_succ, List.set_cons_zero]
    refine wpS_this [6, 7, 8, 9] rfl (by kernel_rfl) (by simp only [pickL, nthL, List.cons_append, List.nil_append]; rfl) ?_
    repeat (go_big_quiet_step (fail))
    refine wpQuiet_nil ?_
    refine wpS_skip (i := 10) (d := some 18) rfl (by rfl) rfl ?_
    simp only [Act.put, List.setIfInBounds_toArray, List.set_cons_succ, List.set_cons_zero]
    refine wpS_this [11, 12] rfl (by kernel_rfl) (by simp only [pickL, nthL, List.cons_append, List.nil_append]; rfl) ?_
    repeat (go_big_quiet_step (fail))
    refine wpQuiet_nil ?_
    refine wpS_nil ?_
    refine then_normal ?_
    refine wp_cond_true rfl ?_
    refine wp_seq ?_
    refine wp_region_N [(0, 1), (1, 3), (2, 1)] (by kernel_rfl) ?_
    refine wpS_this [0] rfl (by kernel_rfl) (by simp only [pickL, nthL, List.cons_append, List.nil_append]; rfl) ?_
    repeat (go_big_quiet_step (fail))
    refine wpQuiet_nil ?_
    refine wpS_storeA (i := 1) (L2 := [_, _]) (cs' := [_, _, _]) rfl (by rfl) rfl rfl rfl (by kernel_rfl) (by rfl) HM11.out 1 rfl rfl rfl rfl covS_nil rfl ?_
    rintro W13 hm12 -
    have HM14 := Lib.hid hm12
    clear hm12
    refine wpS_this [2] rfl (by kernel_rfl) (by simp only [pickL, nthL, List.cons_append, List.nil_append]; rfl) ?_
    repeat (go_big_quiet_step (fail))
    refine wpQuiet_nil ?_
    refine wpS_nil ?_
    refine then_normal ?_
    refine wp_ret ?_
    refine then_ret ?_
    refine ret_cell_tmp rfl HM14.out 0 rfl rfl Try.underlying24 rfl (by kernel_rfl) rfl rfl ?_
    exact doesU_ret (post := fun u => [nextT u (0, 0, []) 1, R]) (Mem.toNext (p := none) (c := 0) (t := []) (Mem.nilRow elemI (Mem.only (M := [_]) HM14.out [1] rfl))) rfl
  · have hq := hf.symm.trans hq
    simp only [Prod.mk.injEq] at hq
    obtain ⟨⟨r1, r2, r3⟩, r4⟩ := hq
    subst f1
    subst f2
    subst sf
    subst fe
    replace hm := Lib.hid hm
    replace hn := Lib.hid hn
    clear hf
    refine wp_region_N [(0, 1), (1, 3), (2, 1), (3, 1), (4, 1), (5, 3), (6, 1), (7, 1), (8, 1), (9, 1), (10, 3), (11, 1), (12, 1)] (by kernel_rfl) ?_
    have Cb3 := Mem.cell HM8.out 1 rfl
    refine wpS_this [0] rfl (by kernel_rfl) (by simp only [pickL, nthL, List.cons_append, List.nil_append]; rfl) ?_
    repeat (go_big_quiet_step (fail))
    refine wpQuiet_nil ?_
    clear Cb3
    refine wpS_does1 (i := 1) (d := some 9) (rem := [_, _]) (out := [_, _, _]) rfl (by rfl) rfl Try.call13 (rmay_d R _ a1 a2 sa ha la) rfl HM8.out [2] rfl covS_nil rfl rfl ?_
    rintro W16 hm15 -
    rw [hm.out]
    have HM17 := Lib.hid hm15
    clear hm15
    simp only [Act.put, List.setIfInBounds_toArray, List.set_cons_succ, List.set_cons_zero]
    refine wpS_this [2, 3, 4] rfl (by kernel_rfl) (by simp only [pickL, nthL, List.cons_append, List.nil_append]; rfl) ?_
    repeat (go_big_quiet_step (fail))
    refine wpQuiet_nil ?_
    refine wpS_does1 (i := 5) (d := some 13) (rem := [_, _, _]) (out := [_, _, _]) rfl (by rfl) rfl Try.call23 (rnode_d n) rfl HM17.out [] rfl covS_nil rfl rfl ?_
    rintro W19 hm18 -
    rw [hn.out]
    have HM20 := Lib.hid hm18
    clear hm18
    simp only [Act.put, List.setIfInBounds_toArray, List.set_cons_succ, List.set_cons_zero]
    refine wpS_this [6, 7, 8, 9] rfl (by kernel_rfl) (by simp only [pickL, nthL, List.cons_append, List.nil_append]; rfl) ?_
    repeat (go_big_quiet_step (fail))
    refine wpQuiet_nil ?_
    refine wpS_skip (i := 10) (d := some 18) rfl (by rfl) rfl ?_
    simp only [Act.put, List.setIfInBounds_toArray, List.set_cons_succ, List.set_cons_zero]
    refine wpS_this [11, 12] rfl (by kernel_rfl) (by simp only [pickL, nthL, List.cons_append, List.nil_append]; rfl) ?_
    repeat (go_big_quiet_step (fail))
    refine wpQuiet_nil ?_
    refine wpS_nil ?_
    refine then_normal ?_
    refine wp_cond_true rfl ?_
    refine wp_seq ?_
    refine wp_region_N [(0, 1), (1, 3), (2, 1)] (by kernel_rfl) ?_
    refine wpS_this [0] rfl (by kernel_rfl) (by simp only [pickL, nthL, List.cons_append, List.nil_append]; rfl) ?_
    repeat (go_big_quiet_step (fail))
    refine wpQuiet_nil ?_
    refine wpS_storeA (i := 1) (L2 := [_, _]) (cs' := [_, _, _]) rfl (by rfl) rfl rfl rfl (by kernel_rfl) (by rfl) HM20.out 1 rfl rfl rfl rfl covS_nil rfl ?_
    rintro W22 hm21 -
    have HM23 := Lib.hid hm21
    clear hm21
    refine wpS_this [2] rfl (by kernel_rfl) (by simp only [pickL, nthL, List.cons_append, List.nil_append]; rfl) ?_
    repeat (go_big_quiet_step (fail))
    refine wpQuiet_nil ?_
    refine wpS_nil ?_
    refine then_normal ?_
    refine wp_ret ?_
    refine then_ret ?_
    refine ret_cell_tmp rfl HM23.out 0 rfl rfl Try.underlying24 rfl (by kernel_rfl) rfl rfl ?_
    exact doesU_ret (post := fun u => [nextT u (0, 0, []) 1, R]) (Mem.toNext (p := none) (c := 0) (t := []) (Mem.nilRow elemI (Mem.only (M := [_]) HM23.out [1] rfl))) rfl
  · have hq := hf.symm.trans hq
    simp only [Prod.mk.injEq] at hq
    obtain ⟨⟨r1, r2, r3⟩, r4⟩ := hq
    subst f1
    subst f2
    subst sf
    subst fe
    replace hm := Lib.hid hm
    replace hn := Lib.hid hn
    replace hg := Lib.hid hg
    clear hf
    refine wp_region_N [(0, 1), (1, 3), (2, 1), (3, 1), (4, 1), (5, 3), (6, 1), (7, 1), (8, 1), (9, 1), (10, 3), (11, 1), (12, 1)] (by kernel_rfl) ?_
    have Cb3 := Mem.cell HM8.out 1 rfl
    refine wpS_this [0] rfl (by kernel_rfl) (by simp only [pickL, nthL, List.cons_append, List.nil_append]; rfl) ?_
    repeat (go_big_quiet_step (fail))
    refine wpQuiet_nil ?_
    clear Cb3
    refine wpS_does1 (i := 1) (d := some 9) (rem := [_, _]) (out := [_, _, _]) rfl (by rfl) rfl Try.call13 (rmay_d R _ a1 a2 sa ha la) rfl HM8.out [2] rfl covS_nil rfl rfl ?_
    rintro W25 hm24 -
    rw [hm.out]
    have HM26 := Lib.hid hm24
    clear hm24
    simp only [Act.put, List.setIfInBounds_toArray, List.set_cons_succ, List.set_cons_zero]
    refine wpS_this [2, 3, 4] rfl (by kernel_rfl) (by simp only [pickL, nthL, List.cons_append, List.nil_append]; rfl) ?_
    repeat (go_big_quiet_step (fail))
    refine wpQuiet_nil ?_
    refine wpS_does1 (i := 5) (d := some 13) (rem := [_, _, _]) (out := [_, _, _]) rfl (by rfl) rfl Try.call23 (rnode_d n) rfl HM26.out [] rfl covS_nil rfl rfl ?_
    rintro W28 hm27 -
    rw [hn.out]
    have HM29 := Lib.hid hm27
    clear hm27
    simp only [Act.put, List.setIfInBounds_toArray, List.set_cons_succ, List.set_cons_zero]
    refine wpS_this [6, 7, 8, 9] rfl (by kernel_rfl) (by simp only [pickL, nthL, List.cons_append, List.nil_append]; rfl) ?_
    repeat (go_big_quiet_step (fail))
    refine wpQuiet_nil ?_
    refine wpS_does1 (i := 10) (d := some 18) (rem := [_, _]) (out := [_, _, _]) rfl (by rfl) rfl Try.call24 (rtgt_d R _ st ht lt) rfl HM29.out [0] rfl covS_nil rfl rfl ?_
    rintro W31 hm30 -
    rw [hg.out]
    have HM32 := Lib.hid hm30
    clear hm30
    simp only [Act.put, List.setIfInBounds_toArray, List.set_cons_succ, List.set_cons_zero]
    refine wpS_this [11, 12] rfl (by kernel_rfl) (by simp only [pickL, nthL, List.cons_append, List.nil_append]; rfl) ?_
    repeat (go_big_quiet_step (fail))
    refine wpQuiet_nil ?_
    refine wpS_nil ?_
    refine then_normal ?_
    refine wp_cond_true rfl ?_
    refine wp_seq ?_
    refine wp_region_N [(0, 1), (1, 3), (2, 1)] (by kernel_rfl) ?_
    refine wpS_this [0] rfl (by kernel_rfl) (by simp only [pickL, nthL, List.cons_append, List.nil_append]; rfl) ?_
    repeat (go_big_quiet_step (fail))
    refine wpQuiet_nil ?_
    refine wpS_storeA (i := 1) (L2 := [_, _]) (cs' := [_, _, _]) rfl (by rfl) rfl rfl rfl (by kernel_rfl) (by rfl) HM32.out 1 rfl rfl rfl rfl covS_nil rfl ?_
    rintro W34 hm33 -
    have HM35 := Lib.hid hm33
    clear hm33
    refine wpS_this [2] rfl (by kernel_rfl) (by simp only [pickL, nthL, List.cons_append, List.nil_append]; rfl) ?_
    repeat (go_big_quiet_step (fail))
    refine wpQuiet_nil ?_
    refine wpS_nil ?_
    refine then_normal ?_
    refine wp_ret ?_
    refine then_ret ?_
    refine ret_cell_tmp rfl HM35.out 0 rfl rfl Try.underlying24 rfl (by kernel_rfl) rfl rfl ?_
    exact doesU_ret (post := fun u => [nextT u (0, 0, []) 1, R]) (Mem.toNext (p := none) (c := 0) (t := []) (Mem.nilRow elemI (Mem.only (M := [_]) HM35.out [1] rfl))) rfl
  · have hq := hf.symm.trans hq
    simp only [Prod.mk.injEq] at hq
    obtain ⟨⟨r1, r2, r3⟩, r4⟩ := hq
    subst f1
    subst f2
    subst sf
    subst fe
    replace hm := Lib.hid hm
    replace hn := Lib.hid hn
    replace hg := Lib.hid hg
    have gx : (a1 == 1000000) = true := beq_iff_eq.2 hx
    clear hx
    clear hf
    refine wp_region_N [(0, 1), (1, 3), (2, 1), (3, 1), (4, 1), (5, 3), (6, 1), (7, 1), (8, 1), (9, 1), (10, 3), (11, 1), (12, 1)] (by kernel_rfl) ?_
    have Cb3 := Mem.cell HM8.out 1 rfl
    refine wpS_this [0] rfl (by kernel_rfl) (by simp only [pickL, nthL, List.cons_append, List.nil_append]; rfl) ?_
    repeat (go_big_quiet_step (fail))
    refine wpQuiet_nil ?_
    clear Cb3
    refine wpS_does1 (i := 1) (d := some 9) (rem := [_, _]) (out := [_, _, _]) rfl (by rfl) rfl Try.call13 (rmay_d R _ a1 a2 sa ha la) rfl HM8.out [2] rfl covS_nil rfl rfl ?_
    rintro W37 hm36 -
    rw [hm.out]
    have HM38 := Lib.hid hm36
    clear hm36
    simp only [Act.put, List.setIfInBounds_toArray, List.set_cons_succ, List.set_cons_zero]
    refine wpS_this [2, 3, 4] rfl (by kernel_rfl) (by simp only [pickL, nthL, List.cons_append, List.nil_append]; rfl) ?_
    repeat (go_big_quiet_step (fail))
    refine wpQuiet_nil ?_
    refine wpS_does1 (i := 5) (d := some 13) (rem := [_, _, _]) (out := [_, _, _]) rfl (by rfl) rfl Try.call23 (rnode_d n) rfl HM38.out [] rfl covS_nil rfl rfl ?_
    rintro W40 hm39 -
    rw [hn.out]
    have HM41 := Lib.hid hm39
    clear hm39
    simp only [Act.put, List.setIfInBounds_toArray, List.set_cons_succ, List.set_cons_zero]
    refine wpS_this [6, 7, 8, 9] rfl (by kernel_rfl) (by simp only [pickL, nthL, List.cons_append, List.nil_append]; rfl) ?_
    repeat (go_big_quiet_step (fail))
    refine wpQuiet_nil ?_
    refine wpS_does1 (i := 10) (d := some 18) (rem := [_, _]) (out := [_, _, _]) rfl (by rfl) rfl Try.call24 (rtgt_d R _ st ht lt) rfl HM41.out [0] rfl covS_nil rfl rfl ?_
    rintro W43 hm42 -
    rw [hg.out]
    have HM44 := Lib.hid hm42
    clear hm42
    simp only [Act.put, List.setIfInBounds_toArray, List.set_cons_succ, List.set_cons_zero]
    refine wpS_this [11, 12] rfl (by kernel_rfl) (by simp only [pickL, nthL, List.cons_append, List.nil_append]; rfl) ?_
    repeat (go_big_quiet_step (fail))
    refine wpQuiet_nil ?_
    refine wpS_nil ?_
    refine then_normal ?_
    refine wp_cond_false rfl ?_
    refine wp_skip ?_
    refine then_normal ?_
    refine wp_seq ?_
    refine wp_seq ?_
    refine wp_region_N [(0, 1), (1, 1), (2, 1)] (by kernel_rfl) ?_
    have Cb3 := Mem.cell HM44.out 2 rfl
    refine wpS_this [0, 1, 2] rfl (by kernel_rfl) (by simp only [pickL, nthL, List.cons_append, List.nil_append]; rfl) ?_
    repeat (go_big_quiet_step (fail))
    refine wpQuiet_nil ?_
    clear Cb3
    refine wpS_nil ?_
    refine then_normal ?_
    refine wp_cond_true rfl ?_
    refine wp_seq ?_
    refine wp_region_N [(0, 1), (1, 3), (2, 1)] (by kernel_rfl) ?_
    refine wpS_this [0] rfl (by kernel_rfl) (by simp only [pickL, nthL, List.cons_append, List.nil_append]; rfl) ?_
    repeat (go_big_quiet_step (fail))
    refine wpQuiet_nil ?_
    refine wpS_storeA (i := 1) (L2 := [_, _]) (cs' := [_, _, _]) rfl (by rfl) rfl rfl rfl (by kernel_rfl) (by rfl) HM44.out 1 rfl rfl rfl rfl covS_nil rfl ?_
    rintro W46 hm45 -
    have HM47 := Lib.hid hm45
    clear hm45
    refine wpS_this [2] rfl (by kernel_rfl) (by simp only [pickL, nthL, List.cons_append, List.nil_append]; rfl) ?_
    repeat (go_big_quiet_step (fail))
    refine wpQuiet_nil ?_
    refine wpS_nil ?_
    refine then_normal ?_
    refine wp_ret ?_
    refine then_ret ?_
    refine ret_cell_tmp rfl HM47.out 0 rfl rfl Try.underlying24 rfl (by kernel_rfl) rfl rfl ?_
    exact doesU_ret (post := fun u => [nextT u (0, 0, []) 6, R]) (Mem.toNext (p := none) (c := 0) (t := []) (Mem.nilRow elemI (Mem.only (M := [_]) HM47.out [1] rfl))) rfl
  · have hq := hf.symm.trans hq
    simp only [Prod.mk.injEq] at hq
    obtain ⟨⟨r1, r2, r3⟩, r4⟩ := hq
    subst f1
    subst f2
    subst sf
    subst fe
    replace hm := Lib.hid hm
    replace hn := Lib.hid hn
    replace hg := Lib.hid hg
    have gx : (a1 == 1000000) = false := beq_eq_false_iff_ne.2 hx
    have hb := mayP_le hm.out
    have hb0 : 0 ≤ a1 := hb.1
    have hb1 : a1 ≤ 1000000 := hb.2
    clear hb
    clear hx
    clear hf
    refine wp_region_N [(0, 1), (1, 3), (2, 1), (3, 1), (4, 1), (5, 3), (6, 1), (7, 1), (8, 1), (9, 1), (10, 3), (11, 1), (12, 1)] (by kernel_rfl) ?_
    have Cb3 := Mem.cell HM8.out 1 rfl
    refine wpS_this [0] rfl (by kernel_rfl) (by simp only [pickL, nthL, List.cons_append, List.nil_append]; rfl) ?_
    repeat (go_big_quiet_step (fail))
    refine wpQuiet_nil ?_
    clear Cb3
    refine wpS_does1 (i := 1) (d := some 9) (rem := [_, _]) (out := [_, _, _]) rfl (by rfl) rfl Try.call13 (rmay_d R _ a1 a2 sa ha la) rfl HM8.out [2] rfl covS_nil rfl rfl ?_
    rintro W49 hm48 -
    rw [hm.out]
    have HM50 := Lib.hid hm48
    clear hm48
    simp only [Act.put, List.setIfInBounds_toArray, List.set_cons_succ, List.set_cons_zero]
    refine wpS_this [2, 3, 4] rfl (by kernel_rfl) (by simp only [pickL, nthL, List.cons_append, List.nil_append]; rfl) ?_
    repeat (go_big_quiet_step (fail))
    refine wpQuiet_nil ?_
    refine wpS_does1 (i := 5) (d := some 13) (rem := [_, _, _]) (out := [_, _, _]) rfl (by rfl) rfl Try.call23 (rnode_d n) rfl HM50.out [] rfl covS_nil rfl rfl ?_
    rintro W52 hm51 -
    rw [hn.out]
    have HM53 := Lib.hid hm51
    clear hm51
    simp only [Act.put, List.setIfInBounds_toArray, List.set_cons_succ, List.set_cons_zero]
    refine wpS_this [6, 7, 8, 9] rfl (by kernel_rfl) (by simp only [pickL, nthL, List.cons_append, List.nil_append]; rfl) ?_
    repeat (go_big_quiet_step (fail))
    refine wpQuiet_nil ?_
    refine wpS_does1 (i := 10) (d := some 18) (rem := [_, _]) (out := [_, _, _]) rfl (by rfl) rfl Try.call24 (rtgt_d R _ st ht lt) rfl HM53.out [0] rfl covS_nil rfl rfl ?_
    rintro W55 hm54 -
    rw [hg.out]
    have HM56 := Lib.hid hm54
    clear hm54
    simp only [Act.put, List.setIfInBounds_toArray, List.set_cons_succ, List.set_cons_zero]
    refine wpS_this [11, 12] rfl (by kernel_rfl) (by simp only [pickL, nthL, List.cons_append, List.nil_append]; rfl) ?_
    repeat (go_big_quiet_step (fail))
    refine wpQuiet_nil ?_
    refine wpS_nil ?_
    refine then_normal ?_
    refine wp_cond_false rfl ?_
    refine wp_skip ?_
    refine then_normal ?_
    refine wp_seq ?_
    refine wp_seq ?_
    refine wp_region_N [(0, 1), (1, 1), (2, 1)] (by kernel_rfl) ?_
    have Cb3 := Mem.cell HM56.out 2 rfl
    refine wpS_this [0, 1, 2] rfl (by kernel_rfl) (by simp only [pickL, nthL, List.cons_append, List.nil_append]; rfl) ?_
    repeat (go_big_quiet_step (fail))
    refine wpQuiet_nil ?_
    clear Cb3
    refine wpS_nil ?_
    refine then_normal ?_
    refine wp_cond_false rfl ?_
    refine wp_skip ?_
    refine then_normal ?_
    refine wp_seq ?_
    refine wp_region_M (fun k => k ∈ ([b3] : List Nat)) [(0, 0), (1, 2), (2, 0), (3, 0), (4, 1), (5, 3), (6, 1), (7, 4), (8, 1)] (by kernel_rfl) (by kernel_rfl) HM56.out ?_
    intro W57 hm58
    have HM59 := Lib.hid hm58
    clear hm58
    refine wpS_all [0] rfl (by kernel_rfl) (by simp only [pickL, nthL, List.cons_append, List.nil_append]; rfl) ?_
    repeat (go_big_quiet_step (fail))
    refine wpQuiet_nil ?_
    have Cb3 := Mem.cell HM59.out 2 rfl
    refine wpS_stay [1] rfl (by kernel_rfl) (by simp only [pickL, nthL, List.cons_append, List.nil_append]; rfl) ?_
    repeat (go_big_quiet_step (fail))
    refine wpQuiet_nil ?_
    clear Cb3
    refine wpS_all [2, 3] rfl (by kernel_rfl) (by simp only [pickL, nthL, List.cons_append, List.nil_append]; rfl) ?_
    repeat (go_big_quiet_step (fail))
    refine wpQuiet_nil ?_
    refine wpS_this [4] rfl (by kernel_rfl) (by simp only [pickL, nthL, List.cons_append, List.nil_append]; rfl) ?_
    repeat (go_big_quiet_step (fail))
    refine wpQuiet_nil ?_
    have hn63 := Mem.nilRow elemI HM59.out
    have HM64 := Lib.hid hn63
    clear hn63
    refine wpS_append (E := elemI) (i := 5) (d := some 31) (L2 := [_, _, _]) rfl (by rfl) rfl HM64.out 0 rfl rfl ((HM64.out.src 1 rfl ht)) rfl (by show (0 + st.length) * 8 ≤ _; omega) rfl (covS_box 2 rfl covS_nil) rfl ?_
    rintro v65 W66 hm67 hg68
    rw [List.nil_append] at hm67
    obtain ⟨q, k, rfl⟩ := row_form (Mem.src hm67 0 rfl rowT_reads)
    have HM69 := Lib.hid hm67
    clear hm67
    simp only [Act.put, List.setIfInBounds_toArray, List.set_cons_succ, List.set_cons_zero]
    refine wpS_this [6] rfl (by kernel_rfl) (by simp only [pickL, nthL, List.cons_append, List.nil_append]; rfl) ?_
    repeat (go_big_quiet_step (fail))
    refine wpQuiet_nil ?_
    refine wpS_storeA4 (i := 7) (L2 := [_, _, _]) (cs' := [_, _, _]) rfl (by rfl) rfl rfl rfl (by kernel_rfl) (by rfl) HM69.out 2 rfl rfl rfl rfl  rfl ?_
    rintro W71 hm70
    have HM73 := Lib.hid hm70
    clear hm70
    refine wpS_this [8] rfl (by kernel_rfl) (by simp only [pickL, nthL, List.cons_append, List.nil_append]; rfl) ?_
    repeat (go_big_quiet_step (fail))
    refine wpQuiet_nil ?_
    refine wpS_nil ?_
    refine then_normal ?_
    refine wp_ret ?_
    refine ret_cell_tmp rfl HM73.out 0 rfl rfl Try.underlying24 rfl (by kernel_rfl) rfl rfl ?_
    exact doesU_ret (post := fun u => [nextT u (a1 + 1, n, st) 0, R]) (Mem.toNext (Mem.only (M := [_, _]) HM73.out [1, 1] rfl)) rfl

end Go.Proofs.Ytcdhipflfnafaaa
