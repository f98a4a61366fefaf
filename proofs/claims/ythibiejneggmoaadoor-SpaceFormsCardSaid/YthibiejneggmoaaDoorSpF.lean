/- Space: SpaceForms. -/
import Derived.Test.YthibiejneggmoaaDoorSpA
import Derived.Test.YthibiejneggmoaaDoorSpR
namespace Go.Proofs.YthibiejneggmoaaDoor
open Go Go.RowKit Go.BigFrame

set_option maxHeartbeats 4000000 in
set_option maxRecDepth 100000 in
theorem forms_d (W0 : World) (vT : Value) (vM : Value) (T : List Int) (M : List Int) (hT : RowAt elemI W0 vT T) (hM : RowAt elemI W0 vM M) (node : Int) (part : Int) : Does Tryd.prog 3 #[vT, vM, .int .i64 node, .int .i64 part] [oldT W0] (.bool true) [oldT W0] := by
  intro w H hp
  have HM0 := Lib.hid (mem_refl hp)
  clear hp
  obtain ⟨pT, cT, rfl⟩ := rd_form hT
  obtain ⟨pM, cM, rfl⟩ := rd_form hM
  go_enter Tryd.func3, Tryd.ntmps3
  refine wp_seq ?_
  refine wp_region_N [(0, 1)] (by kernel_rfl) ?_
  refine wpS_this [0] rfl (by kernel_rfl) (by simp only [pickL, nthL, List.cons_append, List.nil_append]; rfl) ?_
  repeat (go_big_quiet_step (fail))
  refine wpQuiet_nil ?_
  refine wpS_nil ?_
  refine then_normal ?_
  refine wp_seq ?_
  refine wp_seq ?_
  rcases (show 100 < T.length ∨ (¬ 100 < T.length ∧ 100 < M.length) ∨ (¬ 100 < T.length ∧ ¬ 100 < M.length) from by omega) with h1 | ⟨h1, h2⟩ | ⟨h1, h2⟩
  · have g1 : decide ((100 : Int) < (T.length : Int)) = true := decide_eq_true (by omega)
    have g1' := decide_eq_true h1
    replace h1 := Lib.hid h1
    refine wp_region_N [(0, 1), (1, 1), (2, 1), (3, 1), (4, 1), (5, 1), (6, 1), (7, 1)] (by kernel_rfl) ?_
    refine wpS_this [0, 1, 2, 3, 4, 5, 6, 7] rfl (by kernel_rfl) (by simp only [pickL, nthL, List.cons_append, List.nil_append]; rfl) ?_
    repeat (go_big_quiet_step (fail))
    refine wpQuiet_nil ?_
    refine wpS_nil ?_
    refine then_normal ?_
    refine wp_cond_true rfl ?_
    refine wp_seq ?_
    refine wp_region_N [(0, 3), (1, 1)] (by kernel_rfl) ?_
    refine wpS_does0 (i := 0) (d := some 20) (rem := [_]) (out := [_]) rfl (by rfl) rfl Tryd.call4 (sawake_d)  HM0.out [] rfl covS_nil rfl rfl ?_
    rintro W2 hm1 -
    have HM3 := Lib.hid hm1
    clear hm1
    simp only [Act.put, List.setIfInBounds_toArray, List.set_cons_succ, List.set_cons_zero]
    refine wpS_this [1] rfl (by kernel_rfl) (by simp only [pickL, nthL, List.cons_append, List.nil_append]; rfl) ?_
    repeat (go_big_quiet_step (fail))
    refine wpQuiet_nil ?_
    refine wpS_nil ?_
    refine then_normal ?_
    refine wp_ret ?_
    refine then_ret ?_
    refine bodyPost_ret (results_tmp rfl _ _ _) rfl ?_
    exact does_ret (Mem.only (M := [_]) HM3.out [0] rfl) rfl rfl
  · have g1 : decide ((100 : Int) < (T.length : Int)) = false := decide_eq_false (by omega)
    have g2 : decide ((100 : Int) < (M.length : Int)) = true := decide_eq_true (by omega)
    have g1' := decide_eq_false h1
    have g2' := decide_eq_true h2
    replace h1 := Lib.hid h1
    replace h2 := Lib.hid h2
    refine wp_region_N [(0, 1), (1, 1), (2, 1), (3, 1), (4, 1), (5, 1), (6, 1), (7, 1)] (by kernel_rfl) ?_
    refine wpS_this [0, 1, 2, 3, 4, 5, 6, 7] rfl (by kernel_rfl) (by simp only [pickL, nthL, List.cons_append, List.nil_append]; rfl) ?_
    repeat (go_big_quiet_step (fail))
    refine wpQuiet_nil ?_
    refine wpS_nil ?_
    refine then_normal ?_
    refine wp_cond_true rfl ?_
    refine wp_seq ?_
    refine wp_region_N [(0, 3), (1, 1)] (by kernel_rfl) ?_
    refine wpS_does0 (i := 0) (d := some 20) (rem := [_]) (out := [_]) rfl (by rfl) rfl Tryd.call4 (sawake_d)  HM0.out [] rfl covS_nil rfl rfl ?_
    rintro W5 hm4 -
    have HM6 := Lib.hid hm4
    clear hm4
    simp only [Act.put, List.setIfInBounds_toArray, List.set_cons_succ, List.set_cons_zero]
    refine wpS_this [1] rfl (by kernel_rfl) (by simp only [pickL, nthL, List.cons_append, List.nil_append]; rfl) ?_
    repeat (go_big_quiet_step (fail))
    refine wpQuiet_nil ?_
    refine wpS_nil ?_
    refine then_normal ?_
    refine wp_ret ?_
    refine then_ret ?_
    refine bodyPost_ret (results_tmp rfl _ _ _) rfl ?_
    exact does_ret (Mem.only (M := [_]) HM6.out [0] rfl) rfl rfl
  · have g1 : decide ((100 : Int) < (T.length : Int)) = false := decide_eq_false (by omega)
    have g2 : decide ((100 : Int) < (M.length : Int)) = false := decide_eq_false (by omega)
    have g1' := decide_eq_false h1
    have g2' := decide_eq_false h2
    refine wp_region_N [(0, 1), (1, 1), (2, 1), (3, 1), (4, 1), (5, 1), (6, 1), (7, 1)] (by kernel_rfl) ?_
    refine wpS_this [0, 1, 2, 3, 4, 5, 6, 7] rfl (by kernel_rfl) (by simp only [pickL, nthL, List.cons_append, List.nil_append]; rfl) ?_
    repeat (go_big_quiet_step (fail))
    refine wpQuiet_nil ?_
    refine wpS_nil ?_
    refine then_normal ?_
    refine wp_cond_false rfl ?_
    refine wp_skip ?_
    refine then_normal ?_
    refine wp_seq ?_
    obtain ⟨n, hn'⟩ := int_letter (nextI T part)
    have hn := Lib.hid hn'
    clear hn'
    obtain ⟨l, hl'⟩ := int_letter (leastI T node)
    have hl := Lib.hid hl'
    clear hl'
    obtain ⟨u, hu'⟩ := int_letter (unevI T M)
    have hu := Lib.hid hu'
    clear hu'
    obtain ⟨s, hs'⟩ : ∃ z, textB (whoL T) 16 = z := ⟨_, rfl⟩
    have hs := Lib.hid hs'
    clear hs'
    have gn : (n == n) = true := beq_self_eq_true _
    have gl : (l == l) = true := beq_self_eq_true _
    have gu : (u == u) = true := beq_self_eq_true _
    refine wp_region_N [(0, 1), (1, 3), (2, 1), (3, 3), (4, 1), (5, 1)] (by kernel_rfl) ?_
    refine wpS_this [0] rfl (by kernel_rfl) (by simp only [pickL, nthL, List.cons_append, List.nil_append]; rfl) ?_
    repeat (go_big_quiet_step (fail))
    refine wpQuiet_nil ?_
    refine wpS_doesU1 (i := 1) (d := some 22) (rem := []) rfl (by rfl) rfl Tryd.call5 (spcnt_d (oldT W0) _ T (rowOld hT) (by omega)) rfl HM0.out [0] rfl covS_nil (fun _ => rfl) rfl ?_
    rintro u9 W8 hm7 -
    obtain ⟨pca, cca, hm7q⟩ := cnt_formD hm7
    obtain ⟨rfl, hm7r⟩ := hm7q
    clear hm7
    have HM10 := Lib.hid hm7r
    clear hm7r
    simp only [Act.put, List.setIfInBounds_toArray, List.set_cons_succ, List.set_cons_zero]
    refine wpS_this [2] rfl (by kernel_rfl) (by simp only [pickL, nthL, List.cons_append, List.nil_append]; rfl) ?_
    repeat (go_big_quiet_step (fail))
    refine wpQuiet_nil ?_
    refine wpS_doesU1 (i := 3) (d := some 24) (rem := [_]) rfl (by rfl) rfl Tryd.call6 (rcounts_d (oldT W0) _ T (rowOld hT)) rfl HM10.out [1] rfl covS_nil (fun _ => rfl) rfl ?_
    rintro u13 W12 hm11 -
    obtain ⟨pcb, ccb, hm11q⟩ := cnt_form hm11
    obtain ⟨rfl, hm11r⟩ := hm11q
    clear hm11
    have HM14 := Lib.hid hm11r
    clear hm11r
    simp only [Act.put, List.setIfInBounds_toArray, List.set_cons_succ, List.set_cons_zero]
    refine wpS_this [4, 5] rfl (by kernel_rfl) (by simp only [pickL, nthL, List.cons_append, List.nil_append]; rfl) ?_
    repeat (go_big_quiet_step (fail))
    refine wpQuiet_nil ?_
    refine wpS_nil ?_
    refine then_normal ?_
    refine wp_seq ?_
    refine wp_seq ?_
    refine wp_region_N [(0, 1), (1, 1), (2, 1), (3, 1), (4, 1)] (by kernel_rfl) ?_
    refine wpS_this [0, 1, 2, 3, 4] rfl (by kernel_rfl) (by simp only [pickL, nthL, List.cons_append, List.nil_append]; rfl) ?_
    repeat (go_big_quiet_step (fail))
    refine wpQuiet_nil ?_
    refine wpS_nil ?_
    refine then_normal ?_
    refine wp_cond_false rfl ?_
    refine wp_skip ?_
    refine then_normal ?_
    refine wp_seq ?_
    refine wp_seq ?_
    refine wp_region_N [(0, 1), (1, 1), (2, 1)] (by kernel_rfl) ?_
    refine wpS_this [0, 1, 2] rfl (by kernel_rfl) (by simp only [pickL, nthL, List.cons_append, List.nil_append]; rfl) ?_
    repeat (go_big_quiet_step (fail))
    refine wpQuiet_nil ?_
    refine wpS_nil ?_
    refine then_normal ?_
    refine wp_block ?_
    refine wp_loop_F [8, 11, 32, 33, 34, 35, 36, 37, 38, 39, 40, 41, 42, 43, 44] (fun n vs W' => ∃ k : Nat, n = 8 - k ∧ vs 32 = .int .i64 (k : Int) ∧ k ≤ 8 ∧ Mem [rdRow (.slice pca 8 cca) (cntL T), rowT elemI (.slice pcb 8 ccb) (cntL T), oldT W0] H w W') (n0 := 8) ?_ ?_
    · exact ⟨0, rfl, rfl, Nat.zero_le _, (Mem.only (M := [_, _, _]) HM14.out [2, 0, 0] rfl)⟩
    rintro n vs W' ⟨k, rfl, e32, hk, hm⟩
    simp only [putAll, List.map_cons, List.map_nil, Act.put, List.setIfInBounds_toArray, List.set_cons_succ, List.set_cons_zero]
    rw [e32]
    clear e32
    have HM15 := Lib.hid hm
    clear hm
    refine wp_seq ?_
    refine wp_region_N [(0, 1)] (by kernel_rfl) ?_
    refine wpS_this [0] rfl (by kernel_rfl) (by simp only [pickL, nthL, List.cons_append, List.nil_append]; rfl) ?_
    repeat (go_big_quiet_step (fail))
    refine wpQuiet_nil ?_
    refine wpS_nil ?_
    refine then_normal ?_
    refine wp_seq ?_
    refine wp_cond_split rfl (fun h16 => ?_) (fun h16 => ?_)
    · have hk1 : k + 1 ≤ 8 := by have : (k : Int) < 8 := (by simpa using h16); omega
      clear h16
      obtain ⟨c, hc'⟩ : ∃ c, (cntL T)[k]? = some c := ⟨_, cntL_at hk1⟩
      have hc := Lib.hid hc'
      clear hc'
      have gc : (c != c) = false := bne_self_eq_false _
      refine wp_skip ?_
      refine then_normal ?_
      refine wp_seq ?_
      refine wp_block ?_
      refine wp_seq ?_
      refine wp_region_N [(0, 1), (1, 1)] (by kernel_rfl) ?_
      refine wpS_this [0, 1] rfl (by kernel_rfl) (by simp only [pickL, nthL, List.cons_append, List.nil_append]; rfl) ?_
      repeat (go_big_quiet_step (fail))
      refine wpQuiet_nil ?_
      refine wpS_nil ?_
      refine then_normal ?_
      refine wp_seq ?_
      refine wp_region_M (fun k => k ∈ ([] : List Nat)) [(0, 1), (1, 1), (2, 1), (3, 1), (4, 1), (5, 1), (6, 1), (7, 1), (8, 1)] (by kernel_rfl) (by kernel_rfl) HM15.out ?_
      intro W17 hm18
      have HM19 := Lib.hid hm18
      clear hm18
      refine wpS_this [0, 1] rfl (by kernel_rfl) (by simp only [pickL, nthL, List.cons_append, List.nil_append]; rfl) ?_
      repeat (go_big_quiet_step (fail))
      refine wpQuiet_nil ?_
      refine wpS_index (E := elemI) (i := 2) (d := some 37) rfl (by rfl) rfl rfl rfl (HM19.out.row 0 rfl rdRow_reads) (hc.out) rfl ?_
      intro eb20 eo21 hc22
      simp only [Act.put, List.setIfInBounds_toArray, List.set_cons_succ, List.set_cons_zero]
      refine wpS_load1 (i := 3) (d := some 38) (u := .int .i64 c) rfl (by rfl) rfl rfl (hc22 0 _ rfl) Tryd.underlying3 rfl rfl ?_
      simp only [Act.put, List.setIfInBounds_toArray, List.set_cons_succ, List.set_cons_zero]
      refine wpS_this [4, 5] rfl (by kernel_rfl) (by simp only [pickL, nthL, List.cons_append, List.nil_append]; rfl) ?_
      repeat (go_big_quiet_step (fail))
      refine wpQuiet_nil ?_
      refine wpS_index (E := elemI) (i := 6) (d := some 41) rfl (by rfl) rfl rfl rfl (HM19.out.row 1 rfl rowOwn) (hc.out) rfl ?_
      intro eb23 eo24 hc25
      simp only [Act.put, List.setIfInBounds_toArray, List.set_cons_succ, List.set_cons_zero]
      refine wpS_load1 (i := 7) (d := some 42) (u := .int .i64 c) rfl (by rfl) rfl rfl (hc25 0 _ rfl) Tryd.underlying3 rfl rfl ?_
      simp only [Act.put, List.setIfInBounds_toArray, List.set_cons_succ, List.set_cons_zero]
      refine wpS_this [8] rfl (by kernel_rfl) (by simp only [pickL, nthL, List.cons_append, List.nil_append]; rfl) ?_
      repeat (go_big_quiet_step (fail))
      refine wpQuiet_nil ?_
      refine wpS_nil ?_
      refine then_normal ?_
      refine wp_cond_false rfl ?_
      refine wp_skip ?_
      refine block_normal ?_
      refine then_normal ?_
      refine wp_region_N [(0, 1), (1, 1)] (by kernel_rfl) ?_
      refine wpS_this [0, 1] rfl (by kernel_rfl) (by simp only [pickL, nthL, List.cons_append, List.nil_append]; rfl) ?_
      repeat (go_big_quiet_step (fail))
      refine wpQuiet_nil ?_
      refine wpS_nil ?_
      refine then_normal ?_
      refine ⟨by kernel_rfl, ?_⟩
      refine ⟨8 - (k + 1), by omega, k + 1, rfl, rfl, hk1, (Mem.only (M := [_, _, _]) HM19.out [0, 0, 0] rfl)⟩
    · clear h16
      refine wp_exit ?_
      refine then_exit (then_exit (block_exit ?_))
      refine then_normal ?_
      refine wp_seq ?_
      refine wp_region_N [(0, 1), (1, 1), (2, 3), (3, 1), (4, 1), (5, 3), (6, 1), (7, 1), (8, 1), (9, 1), (10, 3), (11, 1), (12, 1), (13, 3), (14, 1), (15, 1), (16, 1), (17, 1), (18, 1), (19, 3), (20, 1), (21, 1), (22, 3), (23, 1), (24, 1), (25, 1), (26, 1), (27, 3), (28, 1), (29, 3), (30, 1), (31, 1), (32, 1), (33, 3), (34, 1), (35, 1)] (by kernel_rfl) ?_
      refine wpS_this [0, 1] rfl (by kernel_rfl) (by simp only [pickL, nthL, List.cons_append, List.nil_append]; rfl) ?_
      repeat (go_big_quiet_step (fail))
      refine wpQuiet_nil ?_
      refine wpS_does2 (i := 2) (d := some 47) (rem := [_, _]) (out := [_, _, _]) rfl (by rfl) rfl Tryd.call7 (spnext_d (oldT W0) _ T (rowOld hT) (by omega) part) rfl rfl HM15.out [2] rfl covS_nil rfl rfl ?_
      rintro W27 hm26 -
      rw [hn.out]
      have HM28 := Lib.hid hm26
      clear hm26
      simp only [Act.put, List.setIfInBounds_toArray, List.set_cons_succ, List.set_cons_zero]
      refine wpS_this [3, 4] rfl (by kernel_rfl) (by simp only [pickL, nthL, List.cons_append, List.nil_append]; rfl) ?_
      repeat (go_big_quiet_step (fail))
      refine wpQuiet_nil ?_
      refine wpS_does2 (i := 5) (d := some 50) (rem := [_, _]) (out := [_, _, _]) rfl (by rfl) rfl Tryd.call8 (rnext_d (oldT W0) _ T (rowOld hT) part) rfl rfl HM28.out [0] rfl covS_nil rfl rfl ?_
      rintro W30 hm29 -
      rw [hn.out]
      have HM31 := Lib.hid hm29
      clear hm29
      simp only [Act.put, List.setIfInBounds_toArray, List.set_cons_succ, List.set_cons_zero]
      refine wpS_this [6, 7, 8, 9] rfl (by kernel_rfl) (by simp only [pickL, nthL, List.cons_append, List.nil_append]; rfl) ?_
      repeat (go_big_quiet_step (fail))
      refine wpQuiet_nil ?_
      refine wpS_does2 (i := 10) (d := some 55) (rem := [_, _]) (out := [_, _, _]) rfl (by rfl) rfl Tryd.call9 (spleast_d (oldT W0) _ T (rowOld hT) (by omega) node) rfl rfl HM31.out [0] rfl covS_nil rfl rfl ?_
      rintro W33 hm32 -
      rw [hl.out]
      have HM34 := Lib.hid hm32
      clear hm32
      simp only [Act.put, List.setIfInBounds_toArray, List.set_cons_succ, List.set_cons_zero]
      refine wpS_this [11, 12] rfl (by kernel_rfl) (by simp only [pickL, nthL, List.cons_append, List.nil_append]; rfl) ?_
      repeat (go_big_quiet_step (fail))
      refine wpQuiet_nil ?_
      refine wpS_does2 (i := 13) (d := some 58) (rem := [_, _]) (out := [_, _, _]) rfl (by rfl) rfl Tryd.call10 (rleast_d (oldT W0) _ T (rowOld hT) node) rfl rfl HM34.out [0] rfl covS_nil rfl rfl ?_
      rintro W36 hm35 -
      rw [hl.out]
      have HM37 := Lib.hid hm35
      clear hm35
      simp only [Act.put, List.setIfInBounds_toArray, List.set_cons_succ, List.set_cons_zero]
      refine wpS_this [14, 15, 16, 17, 18] rfl (by kernel_rfl) (by simp only [pickL, nthL, List.cons_append, List.nil_append]; rfl) ?_
      repeat (go_big_quiet_step (fail))
      refine wpQuiet_nil ?_
      refine wpS_does2 (i := 19) (d := some 64) (rem := [_, _]) (out := [_, _, _]) rfl (by rfl) rfl Tryd.call11 (spunev_d (oldT W0) _ _ T M (rowOld hT) (by omega) (rowOld hM) (by omega)) rfl rfl HM37.out [0] rfl covS_nil rfl rfl ?_
      rintro W39 hm38 -
      rw [hu.out]
      have HM40 := Lib.hid hm38
      clear hm38
      simp only [Act.put, List.setIfInBounds_toArray, List.set_cons_succ, List.set_cons_zero]
      refine wpS_this [20, 21] rfl (by kernel_rfl) (by simp only [pickL, nthL, List.cons_append, List.nil_append]; rfl) ?_
      repeat (go_big_quiet_step (fail))
      refine wpQuiet_nil ?_
      refine wpS_does2 (i := 22) (d := some 67) (rem := [_, _]) (out := [_, _, _]) rfl (by rfl) rfl Tryd.call12 (runev_d (oldT W0) _ _ T M (rowOld hT) (rowOld hM) (by omega)) rfl rfl HM40.out [0] rfl covS_nil rfl rfl ?_
      rintro W42 hm41 -
      rw [hu.out]
      have HM43 := Lib.hid hm41
      clear hm41
      simp only [Act.put, List.setIfInBounds_toArray, List.set_cons_succ, List.set_cons_zero]
      refine wpS_this [23, 24, 25, 26] rfl (by kernel_rfl) (by simp only [pickL, nthL, List.cons_append, List.nil_append]; rfl) ?_
      repeat (go_big_quiet_step (fail))
      refine wpQuiet_nil ?_
      refine wpS_does1 (i := 27) (d := some 72) (rem := [_, _]) (out := [_, _, _]) rfl (by rfl) rfl Tryd.call13 (sptext_d (oldT W0) _ T (rowOld hT) (by omega)) rfl HM43.out [0] rfl covS_nil rfl rfl ?_
      rintro W45 hm44 -
      rw [hs.out]
      have HM46 := Lib.hid hm44
      clear hm44
      simp only [Act.put, List.setIfInBounds_toArray, List.set_cons_succ, List.set_cons_zero]
      refine wpS_this [28] rfl (by kernel_rfl) (by simp only [pickL, nthL, List.cons_append, List.nil_append]; rfl) ?_
      repeat (go_big_quiet_step (fail))
      refine wpQuiet_nil ?_
      refine wpS_does1 (i := 29) (d := some 74) (rem := [_, _]) (out := [_, _, _]) rfl (by rfl) rfl Tryd.call14 (rtext_d (oldT W0) _ T (rowOld hT)) rfl HM46.out [0] rfl covS_nil rfl rfl ?_
      rintro W48 hm47 -
      rw [hs.out]
      have HM49 := Lib.hid hm47
      clear hm47
      simp only [Act.put, List.setIfInBounds_toArray, List.set_cons_succ, List.set_cons_zero]
      refine wpS_read (i := 30) (d := some 75) rfl (by rfl) (run_eqS (b := true) (decide_eq_true rfl) rfl rfl rfl) rfl ?_
      simp only [Act.put, List.setIfInBounds_toArray, List.set_cons_succ, List.set_cons_zero]
      refine wpS_this [31, 32] rfl (by kernel_rfl) (by simp only [pickL, nthL, List.cons_append, List.nil_append]; rfl) ?_
      repeat (go_big_quiet_step (fail))
      refine wpQuiet_nil ?_
      refine wpS_does0 (i := 33) (d := some 78) (rem := [_, _, _]) (out := [_, _, _]) rfl (by rfl) rfl Tryd.call4 (sawake_d)  HM49.out [] rfl covS_nil rfl rfl ?_
      rintro W51 hm50 -
      have HM52 := Lib.hid hm50
      clear hm50
      simp only [Act.put, List.setIfInBounds_toArray, List.set_cons_succ, List.set_cons_zero]
      refine wpS_this [34, 35] rfl (by kernel_rfl) (by simp only [pickL, nthL, List.cons_append, List.nil_append]; rfl) ?_
      repeat (go_big_quiet_step (fail))
      refine wpQuiet_nil ?_
      refine wpS_nil ?_
      refine then_normal ?_
      refine wp_ret ?_
      refine bodyPost_ret (results_tmp rfl _ _ _) rfl ?_
      exact does_ret (Mem.only (M := [_]) HM52.out [0] rfl) rfl rfl

end Go.Proofs.YthibiejneggmoaaDoor
