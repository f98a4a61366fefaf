/- Space: SpaceTexts. -/
import Derived.Test.YthibiejneggmoaaSpA
namespace Go.Proofs.Ythibiejneggmoaa
open Go Go.RowKit Go.BigFrame

theorem who_some {T : List Int} {k : Nat} (h : 0 ≤ whoL T k) : ∃ x, T[k]? = some x ∧ whoL T k = x ∧ 0 ≤ x := by
  obtain ⟨n, hn, _⟩ := whoL_nat h
  have h0 : nodeE (atL T k) = true := whoL_pos h
  have h1 : atL T k = (n : Int) := (whoL_node h0).symm.trans hn
  have hlt : k < T.length := by
    rcases Nat.lt_or_ge k T.length with q | q
    · exact q
    · rw [whoL_out q] at hn; omega
  exact ⟨n, by rw [← h1]; exact atL_some hlt, hn, by omega⟩
theorem text_ways (T : List Int) (k : Nat) : (T.length ≤ k ∧ whoL T k = -1) ∨ (k < T.length ∧ ∃ x, T[k]? = some x ∧ x < 0 ∧ whoL T k = -1) ∨ (k < T.length ∧ ∃ x, T[k]? = some x ∧ 0 ≤ x ∧ ¬ x < 8 ∧ whoL T k = -1) ∨ (k < T.length ∧ ∃ x, T[k]? = some x ∧ 0 ≤ x ∧ x < 8 ∧ whoL T k = x) := by
  rcases Nat.lt_or_ge k T.length with h | h
  · have hx : T[k]? = some T[k] := List.getElem?_eq_getElem h
    have ha := atL_of hx
    rcases (show T[k] < 0 ∨ (0 ≤ T[k] ∧ ¬ T[k] < 8) ∨ (0 ≤ T[k] ∧ T[k] < 8) by omega) with q | ⟨q, q2⟩ | ⟨q, q2⟩
    · exact .inr (.inl ⟨h, _, hx, q, whoL_none (by rw [ha]; exact decide_eq_false (by omega))⟩)
    · exact .inr (.inr (.inl ⟨h, _, hx, q, q2, whoL_none (by rw [ha]; exact decide_eq_false (by omega))⟩))
    · exact .inr (.inr (.inr ⟨h, _, hx, q, q2, by rw [whoL_node (by rw [ha]; exact decide_eq_true ⟨q, q2⟩), ha]⟩))
  · exact .inl ⟨h, whoL_out h⟩
set_option maxHeartbeats 4000000 in
set_option maxRecDepth 100000 in
theorem texts_d (W0 : World) (vA : Value) (vB : Value) (A : List Int) (B : List Int) (hA : RowAt elemI W0 vA A) (hB : RowAt elemI W0 vB B) : Does Try.prog 6 #[vA, vB] [oldT W0] (.bool true) [oldT W0] := by
  intro w H hp
  have HM0 := Lib.hid (mem_refl hp)
  clear hp
  obtain ⟨pA, cA, rfl⟩ := rd_form hA
  obtain ⟨pB, cB, rfl⟩ := rd_form hB
  go_enter Try.func6, Try.ntmps6
  refine wp_seq ?_
  refine wp_region_N [(0, 1)] (by kernel_rfl) ?_
  refine wpS_this [0] rfl (by kernel_rfl) (by simp only [pickL, nthL, List.cons_append, List.nil_append]; rfl) ?_
  repeat (go_big_quiet_step (fail))
  refine wpQuiet_nil ?_
  refine wpS_nil ?_
  refine then_normal ?_
  refine wp_seq ?_
  refine wp_seq ?_
  rcases (show 100 < A.length ∨ (¬ 100 < A.length ∧ 100 < B.length) ∨ (¬ 100 < A.length ∧ ¬ 100 < B.length) from by omega) with h1 | ⟨h1, h2⟩ | ⟨h1, h2⟩
  · have g1 : decide ((100 : Int) < (A.length : Int)) = true := decide_eq_true (by omega)
    have g1' := decide_eq_true h1
    replace h1 := Lib.hid h1
    refine wp_region_N [(0, 1), (1, 1), (2, 1), (3, 1), (4, 1), (5, 1), (6, 1), (7, 1)] (by kernel_rfl) ?_
    refine wpS_this [0, 1, 2, 3, 4, 5, 6, 7] rfl (by kernel_rfl) (by simp only [pickL, nthL, List.cons_append, List.nil_append]; rfl) ?_
    repeat (go_big_quiet_step (fail))
    refine wpQuiet_nil ?_
    refine wpS_nil ?_
    refine then_normal ?_
    refine wp_cond_true rfl ?_
    refine wp_seq ?_
    refine wp_region_N [(0, 3), (1, 1)] (by kernel_rfl) ?_
    refine wpS_does0 (i := 0) (d := some 18) (rem := [_]) (out := [_]) rfl (by rfl) rfl Try.call7 (sawake_d)  HM0.out [] rfl covS_nil rfl rfl ?_
    rintro W2 hm1 -
    have HM3 := Lib.hid hm1
    clear hm1
    simp only [Act.put, List.setIfInBounds_toArray, List.set_cons_succ, List.set_cons_zero]
    refine wpS_this [1] rfl (by kernel_rfl) (by simp only [pickL, nthL, List.cons_append, List.nil_append]; rfl) ?_
    repeat (go_big_quiet_step (fail))
    refine wpQuiet_nil ?_
    refine wpS_nil ?_
    refine then_normal ?_
    refine wp_ret ?_
    refine then_ret ?_
    refine bodyPost_ret (results_tmp rfl _ _ _) rfl ?_
    exact does_ret (Mem.only (M := [_]) HM3.out [0] rfl) rfl rfl
  · have g1 : decide ((100 : Int) < (A.length : Int)) = false := decide_eq_false (by omega)
    have g2 : decide ((100 : Int) < (B.length : Int)) = true := decide_eq_true (by omega)
    have g1' := decide_eq_false h1
    have g2' := decide_eq_true h2
    replace h1 := Lib.hid h1
    replace h2 := Lib.hid h2
    refine wp_region_N [(0, 1), (1, 1), (2, 1), (3, 1), (4, 1), (5, 1), (6, 1), (7, 1)] (by kernel_rfl) ?_
    refine wpS_this [0, 1, 2, 3, 4, 5, 6, 7] rfl (by kernel_rfl) (by simp only [pickL, nthL, List.cons_append, List.nil_append]; rfl) ?_
    repeat (go_big_quiet_step (fail))
    refine wpQuiet_nil ?_
    refine wpS_nil ?_
    refine then_normal ?_
    refine wp_cond_true rfl ?_
    refine wp_seq ?_
    refine wp_region_N [(0, 3), (1, 1)] (by kernel_rfl) ?_
    refine wpS_does0 (i := 0) (d := some 18) (rem := [_]) (out := [_]) rfl (by rfl) rfl Try.call7 (sawake_d)  HM0.out [] rfl covS_nil rfl rfl ?_
    rintro W5 hm4 -
    have HM6 := Lib.hid hm4
    clear hm4
    simp only [Act.put, List.setIfInBounds_toArray, List.set_cons_succ, List.set_cons_zero]
    refine wpS_this [1] rfl (by kernel_rfl) (by simp only [pickL, nthL, List.cons_append, List.nil_append]; rfl) ?_
    repeat (go_big_quiet_step (fail))
    refine wpQuiet_nil ?_
    refine wpS_nil ?_
    refine then_normal ?_
    refine wp_ret ?_
    refine then_ret ?_
    refine bodyPost_ret (results_tmp rfl _ _ _) rfl ?_
    exact does_ret (Mem.only (M := [_]) HM6.out [0] rfl) rfl rfl
  · have g1 : decide ((100 : Int) < (A.length : Int)) = false := decide_eq_false (by omega)
    have g2 : decide ((100 : Int) < (B.length : Int)) = false := decide_eq_false (by omega)
    have g1' := decide_eq_false h1
    have g2' := decide_eq_false h2
    refine wp_region_N [(0, 1), (1, 1), (2, 1), (3, 1), (4, 1), (5, 1), (6, 1), (7, 1)] (by kernel_rfl) ?_
    refine wpS_this [0, 1, 2, 3, 4, 5, 6, 7] rfl (by kernel_rfl) (by simp only [pickL, nthL, List.cons_append, List.nil_append]; rfl) ?_
    repeat (go_big_quiet_step (fail))
    refine wpQuiet_nil ?_
    refine wpS_nil ?_
    refine then_normal ?_
    refine wp_cond_false rfl ?_
    refine wp_skip ?_
    refine then_normal ?_
    refine wp_seq ?_
    obtain ⟨sa, hsa'⟩ : ∃ z, textB (whoL A) 16 = z := ⟨_, rfl⟩
    have hz_sa : sa.size = 16 := by rw [← hsa']; exact textB_size _ _
    have gz_sa : ((sa.size : Int) != 16) = false := by rw [hz_sa]; rfl
    have gz_sa' : (sa.size != 16) = false := by rw [hz_sa]; rfl
    have hsa := Lib.hid hsa'
    clear hsa'
    replace hz_sa := Lib.hid hz_sa
    obtain ⟨sb, hsb'⟩ : ∃ z, textB (whoL B) 16 = z := ⟨_, rfl⟩
    have hz_sb : sb.size = 16 := by rw [← hsb']; exact textB_size _ _
    have gz_sb : ((sb.size : Int) != 16) = false := by rw [hz_sb]; rfl
    have gz_sb' : (sb.size != 16) = false := by rw [hz_sb]; rfl
    have hsb := Lib.hid hsb'
    clear hsb'
    replace hz_sb := Lib.hid hz_sb
    refine wp_region_N [(0, 1), (1, 3), (2, 1), (3, 3), (4, 1), (5, 1)] (by kernel_rfl) ?_
    refine wpS_this [0] rfl (by kernel_rfl) (by simp only [pickL, nthL, List.cons_append, List.nil_append]; rfl) ?_
    repeat (go_big_quiet_step (fail))
    refine wpQuiet_nil ?_
    refine wpS_does1 (i := 1) (d := some 20) (rem := []) (out := [_]) rfl (by rfl) rfl Try.call12 (sptext_d (oldT W0) _ A (rowOld hA) (by omega)) rfl HM0.out [0] rfl covS_nil rfl rfl ?_
    rintro W8 hm7 -
    rw [hsa.out]
    have HM9 := Lib.hid hm7
    clear hm7
    simp only [Act.put, List.setIfInBounds_toArray, List.set_cons_succ, List.set_cons_zero]
    refine wpS_this [2] rfl (by kernel_rfl) (by simp only [pickL, nthL, List.cons_append, List.nil_append]; rfl) ?_
    repeat (go_big_quiet_step (fail))
    refine wpQuiet_nil ?_
    refine wpS_does1 (i := 3) (d := some 22) (rem := []) (out := [_]) rfl (by rfl) rfl Try.call12 (sptext_d (oldT W0) _ B (rowOld hB) (by omega)) rfl HM9.out [0] rfl covS_nil rfl rfl ?_
    rintro W11 hm10 -
    rw [hsb.out]
    have HM12 := Lib.hid hm10
    clear hm10
    simp only [Act.put, List.setIfInBounds_toArray, List.set_cons_succ, List.set_cons_zero]
    refine wpS_this [4, 5] rfl (by kernel_rfl) (by simp only [pickL, nthL, List.cons_append, List.nil_append]; rfl) ?_
    repeat (go_big_quiet_step (fail))
    refine wpQuiet_nil ?_
    refine wpS_nil ?_
    refine then_normal ?_
    refine wp_seq ?_
    refine wp_seq ?_
    refine wp_region_N [(0, 1), (1, 1), (2, 1), (3, 1), (4, 1), (5, 1), (6, 1), (7, 1)] (by kernel_rfl) ?_
    refine wpS_this [0, 1, 2, 3, 4, 5, 6, 7] rfl (by kernel_rfl) (by simp only [pickL, nthL, List.cons_append, List.nil_append]; rfl) ?_
    repeat (go_big_quiet_step (fail))
    refine wpQuiet_nil ?_
    refine wpS_nil ?_
    refine then_normal ?_
    refine wp_cond_false rfl ?_
    refine wp_skip ?_
    refine then_normal ?_
    refine wp_seq ?_
    refine wp_seq ?_
    refine wp_region_N [(0, 1)] (by kernel_rfl) ?_
    refine wpS_this [0] rfl (by kernel_rfl) (by simp only [pickL, nthL, List.cons_append, List.nil_append]; rfl) ?_
    repeat (go_big_quiet_step (fail))
    refine wpQuiet_nil ?_
    refine wpS_nil ?_
    refine then_normal ?_
    refine wp_block ?_
    refine wp_loop_F [4, 7, 8, 9, 31, 32, 33, 34, 35, 36, 37, 38, 39, 40, 41, 42, 43, 44, 45, 46, 47, 48, 49, 50, 51, 52, 53, 54, 55, 56, 57, 58, 59, 60, 61, 62, 63, 64, 65, 66, 67, 68, 69, 70, 71, 72, 73, 74, 75, 76, 77, 78, 79, 80, 81, 82, 83, 84, 85, 86, 87, 88, 89, 90, 91, 92, 93, 94, 95, 96, 97, 98] (fun n vs W' => ∃ k : Nat, n = 16 - k ∧ vs 31 = .int .i64 (k : Int) ∧ k ≤ 16 ∧ Mem [oldT W0] H w W') (n0 := 16) ?_ ?_
    · exact ⟨0, rfl, rfl, Nat.zero_le _, (Mem.only (M := [_]) HM12.out [0] rfl)⟩
    rintro n vs W' ⟨k, rfl, e31, hk, hm⟩
    simp only [putAll, List.map_cons, List.map_nil, Act.put, List.setIfInBounds_toArray, List.set_cons_succ, List.set_cons_zero]
    rw [e31]
    clear e31
    have HM13 := Lib.hid hm
    clear hm
    refine wp_seq ?_
    refine wp_region_N [(0, 1)] (by kernel_rfl) ?_
    refine wpS_this [0] rfl (by kernel_rfl) (by simp only [pickL, nthL, List.cons_append, List.nil_append]; rfl) ?_
    repeat (go_big_quiet_step (fail))
    refine wpQuiet_nil ?_
    refine wpS_nil ?_
    refine then_normal ?_
    refine wp_seq ?_
    refine wp_cond_split rfl (fun h14 => ?_) (fun h14 => ?_)
    · have hk1 : k + 1 ≤ 16 := by have : (k : Int) < 16 := (by simpa using h14); omega
      clear h14
      obtain ⟨ca, hca'⟩ := int_letter (chO (whoL A k))
      have hba : Hid (sa[k]? = some (chU (whoL A k))) := Lib.hid (by rw [← hsa.out]; exact textB_at hk1)
      have hza : Hid (((chU (whoL A k)).toNat : Int) = ca) := Lib.hid ((chU_int (whoL_range A k)).trans hca')
      have hca := Lib.hid hca'
      clear hca'
      obtain ⟨cb, hcb'⟩ := int_letter (chO (whoL B k))
      have hbb : Hid (sb[k]? = some (chU (whoL B k))) := Lib.hid (by rw [← hsb.out]; exact textB_at hk1)
      have hzb : Hid (((chU (whoL B k)).toNat : Int) = cb) := Lib.hid ((chU_int (whoL_range B k)).trans hcb')
      have hcb := Lib.hid hcb'
      clear hcb'
      refine wp_skip ?_
      refine then_normal ?_
      refine wp_seq ?_
      refine wp_block ?_
      refine wp_seq ?_
      refine wp_region_N [(0, 1), (1, 1)] (by kernel_rfl) ?_
      refine wpS_this [0, 1] rfl (by kernel_rfl) (by simp only [pickL, nthL, List.cons_append, List.nil_append]; rfl) ?_
      repeat (go_big_quiet_step (fail))
      refine wpQuiet_nil ?_
      refine wpS_nil ?_
      refine then_normal ?_
      refine wp_seq ?_
      refine wp_region_N [(0, 1), (1, 1)] (by kernel_rfl) ?_
      refine wpS_this [0, 1] rfl (by kernel_rfl) (by simp only [pickL, nthL, List.cons_append, List.nil_append]; rfl) ?_
      repeat (go_big_quiet_step (fail))
      refine wpQuiet_nil ?_
      refine wpS_nil ?_
      refine then_normal ?_
      refine wp_seq ?_
      refine wp_seq ?_
      refine wp_cut_F [34, 35, 36, 37, 38, 39, 40, 41, 42, 43, 44, 45, 46, 47, 48, 49, 50, 51] (fun vs W' => vs 51 = .bool (decide (0 ≤ whoL A k)) ∧ Mem [oldT W0] H w W') ?_ ?_
      · rcases text_ways A k with ⟨hual, huaw⟩ | ⟨hual, uax, huaxe0, hua0, huaw⟩ | ⟨hual, uax, huaxe0, hua0, hua8, huaw⟩ | ⟨hual, uax, huaxe0, hua0, hua8, huaw⟩
        · have gua1 : decide ((k : Int) < (A.length : Int)) = false := decide_eq_false (by omega)
          have gua1' : decide (k < A.length) = false := decide_eq_false (by omega)
          clear hual
          replace huaw := Lib.hid huaw
          have hgd : Hid (decide (0 ≤ whoL A k) = false) := Lib.hid (by rw [huaw.out]; exact rfl)
          refine wp_region_N [(0, 1), (1, 1), (2, 1), (3, 1), (4, 1), (5, 1), (6, 1), (7, 1), (8, 1), (9, 1), (10, 1), (11, 1), (12, 1), (13, 1), (14, 1), (15, 1), (16, 1), (17, 1)] (by kernel_rfl) ?_
          refine wpS_this [0, 1, 2, 3, 4, 5, 6] rfl (by kernel_rfl) (by simp only [pickL, nthL, List.cons_append, List.nil_append]; rfl) ?_
          repeat (go_big_quiet_step (fail))
          refine wpQuiet_nil ?_
          refine wpS_skip (i := 7) (d := some 41) rfl (by rfl) rfl ?_
          simp only [Act.put, List.setIfInBounds_toArray, List.set_cons_succ, List.set_cons_zero]
          refine wpS_skip (i := 8) (d := some 42) rfl (by rfl) rfl ?_
          simp only [Act.put, List.setIfInBounds_toArray, List.set_cons_succ, List.set_cons_zero]
          refine wpS_this [9, 10, 11, 12, 13] rfl (by kernel_rfl) (by simp only [pickL, nthL, List.cons_append, List.nil_append]; rfl) ?_
          repeat (go_big_quiet_step (fail))
          refine wpQuiet_nil ?_
          refine wpS_skip (i := 14) (d := some 48) rfl (by rfl) rfl ?_
          simp only [Act.put, List.setIfInBounds_toArray, List.set_cons_succ, List.set_cons_zero]
          refine wpS_skip (i := 15) (d := some 49) rfl (by rfl) rfl ?_
          simp only [Act.put, List.setIfInBounds_toArray, List.set_cons_succ, List.set_cons_zero]
          refine wpS_this [16, 17] rfl (by kernel_rfl) (by simp only [pickL, nthL, List.cons_append, List.nil_append]; rfl) ?_
          repeat (go_big_quiet_step (fail))
          refine wpQuiet_nil ?_
          refine wpS_nil ?_
          refine then_normal ?_
          refine ⟨by kernel_rfl, ?_⟩
          exact ⟨congrArg Value.bool hgd.out.symm, (Mem.only (M := [_]) HM13.out [0] rfl)⟩
        · have gua1 : decide ((k : Int) < (A.length : Int)) = true := decide_eq_true (by omega)
          have gua1' : decide (k < A.length) = true := decide_eq_true (by omega)
          have huaxe := Lib.hid huaxe0
          clear huaxe0
          have gua2 : decide (0 ≤ uax) = false := decide_eq_false (by omega)
          clear hua0
          replace huaw := Lib.hid huaw
          clear hual
          have hgd : Hid (decide (0 ≤ whoL A k) = false) := Lib.hid (by rw [huaw.out]; exact rfl)
          refine wp_region_N [(0, 1), (1, 1), (2, 1), (3, 1), (4, 1), (5, 1), (6, 1), (7, 1), (8, 1), (9, 1), (10, 1), (11, 1), (12, 1), (13, 1), (14, 1), (15, 1), (16, 1), (17, 1)] (by kernel_rfl) ?_
          refine wpS_this [0, 1, 2, 3, 4, 5, 6] rfl (by kernel_rfl) (by simp only [pickL, nthL, List.cons_append, List.nil_append]; rfl) ?_
          repeat (go_big_quiet_step (fail))
          refine wpQuiet_nil ?_
          refine wpS_index (E := elemI) (i := 7) (d := some 41) rfl (by rfl) rfl rfl rfl (HM13.out.row 0 rfl (rowOld hA)) (huaxe.out) rfl ?_
          intro eb15 eo16 hc17
          simp only [Act.put, List.setIfInBounds_toArray, List.set_cons_succ, List.set_cons_zero]
          refine wpS_load1 (i := 8) (d := some 42) (u := .int .i64 uax) rfl (by rfl) rfl rfl (hc17 0 _ rfl) Try.underlying3 rfl rfl ?_
          simp only [Act.put, List.setIfInBounds_toArray, List.set_cons_succ, List.set_cons_zero]
          refine wpS_this [9, 10, 11, 12, 13] rfl (by kernel_rfl) (by simp only [pickL, nthL, List.cons_append, List.nil_append]; rfl) ?_
          repeat (go_big_quiet_step (fail))
          refine wpQuiet_nil ?_
          refine wpS_skip (i := 14) (d := some 48) rfl (by rfl) rfl ?_
          simp only [Act.put, List.setIfInBounds_toArray, List.set_cons_succ, List.set_cons_zero]
          refine wpS_skip (i := 15) (d := some 49) rfl (by rfl) rfl ?_
          simp only [Act.put, List.setIfInBounds_toArray, List.set_cons_succ, List.set_cons_zero]
          refine wpS_this [16, 17] rfl (by kernel_rfl) (by simp only [pickL, nthL, List.cons_append, List.nil_append]; rfl) ?_
          repeat (go_big_quiet_step (fail))
          refine wpQuiet_nil ?_
          refine wpS_nil ?_
          refine then_normal ?_
          refine ⟨by kernel_rfl, ?_⟩
          exact ⟨congrArg Value.bool hgd.out.symm, (Mem.only (M := [_]) HM13.out [0] rfl)⟩
        · have gua1 : decide ((k : Int) < (A.length : Int)) = true := decide_eq_true (by omega)
          have gua1' : decide (k < A.length) = true := decide_eq_true (by omega)
          have huaxe := Lib.hid huaxe0
          clear huaxe0
          have gua2 : decide (0 ≤ uax) = true := decide_eq_true (by omega)
          have gua3 : decide (uax < 8) = false := decide_eq_false (by omega)
          clear hua0 hua8
          replace huaw := Lib.hid huaw
          clear hual
          have hgd : Hid (decide (0 ≤ whoL A k) = false) := Lib.hid (by rw [huaw.out]; exact rfl)
          refine wp_region_N [(0, 1), (1, 1), (2, 1), (3, 1), (4, 1), (5, 1), (6, 1), (7, 1), (8, 1), (9, 1), (10, 1), (11, 1), (12, 1), (13, 1), (14, 1), (15, 1), (16, 1), (17, 1)] (by kernel_rfl) ?_
          refine wpS_this [0, 1, 2, 3, 4, 5, 6] rfl (by kernel_rfl) (by simp only [pickL, nthL, List.cons_append, List.nil_append]; rfl) ?_
          repeat (go_big_quiet_step (fail))
          refine wpQuiet_nil ?_
          refine wpS_index (E := elemI) (i := 7) (d := some 41) rfl (by rfl) rfl rfl rfl (HM13.out.row 0 rfl (rowOld hA)) (huaxe.out) rfl ?_
          intro eb18 eo19 hc20
          simp only [Act.put, List.setIfInBounds_toArray, List.set_cons_succ, List.set_cons_zero]
          refine wpS_load1 (i := 8) (d := some 42) (u := .int .i64 uax) rfl (by rfl) rfl rfl (hc20 0 _ rfl) Try.underlying3 rfl rfl ?_
          simp only [Act.put, List.setIfInBounds_toArray, List.set_cons_succ, List.set_cons_zero]
          refine wpS_this [9, 10, 11, 12, 13] rfl (by kernel_rfl) (by simp only [pickL, nthL, List.cons_append, List.nil_append]; rfl) ?_
          repeat (go_big_quiet_step (fail))
          refine wpQuiet_nil ?_
          refine wpS_index (E := elemI) (i := 14) (d := some 48) rfl (by rfl) rfl rfl rfl (HM13.out.row 0 rfl (rowOld hA)) (huaxe.out) rfl ?_
          intro eb21 eo22 hc23
          simp only [Act.put, List.setIfInBounds_toArray, List.set_cons_succ, List.set_cons_zero]
          refine wpS_load1 (i := 15) (d := some 49) (u := .int .i64 uax) rfl (by rfl) rfl rfl (hc23 0 _ rfl) Try.underlying3 rfl rfl ?_
          simp only [Act.put, List.setIfInBounds_toArray, List.set_cons_succ, List.set_cons_zero]
          refine wpS_this [16, 17] rfl (by kernel_rfl) (by simp only [pickL, nthL, List.cons_append, List.nil_append]; rfl) ?_
          repeat (go_big_quiet_step (fail))
          refine wpQuiet_nil ?_
          refine wpS_nil ?_
          refine then_normal ?_
          refine ⟨by kernel_rfl, ?_⟩
          exact ⟨congrArg Value.bool hgd.out.symm, (Mem.only (M := [_]) HM13.out [0] rfl)⟩
        · have gua1 : decide ((k : Int) < (A.length : Int)) = true := decide_eq_true (by omega)
          have gua1' : decide (k < A.length) = true := decide_eq_true (by omega)
          have huaxe := Lib.hid huaxe0
          clear huaxe0
          have gua2 : decide (0 ≤ uax) = true := decide_eq_true (by omega)
          have gua3 : decide (uax < 8) = true := decide_eq_true (by omega)
          replace huaw := Lib.hid huaw
          clear hual
          have hgd : Hid (decide (0 ≤ whoL A k) = true) := Lib.hid (by rw [huaw.out]; exact decide_eq_true hua0)
          refine wp_region_N [(0, 1), (1, 1), (2, 1), (3, 1), (4, 1), (5, 1), (6, 1), (7, 1), (8, 1), (9, 1), (10, 1), (11, 1), (12, 1), (13, 1), (14, 1), (15, 1), (16, 1), (17, 1)] (by kernel_rfl) ?_
          refine wpS_this [0, 1, 2, 3, 4, 5, 6] rfl (by kernel_rfl) (by simp only [pickL, nthL, List.cons_append, List.nil_append]; rfl) ?_
          repeat (go_big_quiet_step (fail))
          refine wpQuiet_nil ?_
          refine wpS_index (E := elemI) (i := 7) (d := some 41) rfl (by rfl) rfl rfl rfl (HM13.out.row 0 rfl (rowOld hA)) (huaxe.out) rfl ?_
          intro eb24 eo25 hc26
          simp only [Act.put, List.setIfInBounds_toArray, List.set_cons_succ, List.set_cons_zero]
          refine wpS_load1 (i := 8) (d := some 42) (u := .int .i64 uax) rfl (by rfl) rfl rfl (hc26 0 _ rfl) Try.underlying3 rfl rfl ?_
          simp only [Act.put, List.setIfInBounds_toArray, List.set_cons_succ, List.set_cons_zero]
          refine wpS_this [9, 10, 11, 12, 13] rfl (by kernel_rfl) (by simp only [pickL, nthL, List.cons_append, List.nil_append]; rfl) ?_
          repeat (go_big_quiet_step (fail))
          refine wpQuiet_nil ?_
          refine wpS_index (E := elemI) (i := 14) (d := some 48) rfl (by rfl) rfl rfl rfl (HM13.out.row 0 rfl (rowOld hA)) (huaxe.out) rfl ?_
          intro eb27 eo28 hc29
          simp only [Act.put, List.setIfInBounds_toArray, List.set_cons_succ, List.set_cons_zero]
          refine wpS_load1 (i := 15) (d := some 49) (u := .int .i64 uax) rfl (by rfl) rfl rfl (hc29 0 _ rfl) Try.underlying3 rfl rfl ?_
          simp only [Act.put, List.setIfInBounds_toArray, List.set_cons_succ, List.set_cons_zero]
          refine wpS_this [16, 17] rfl (by kernel_rfl) (by simp only [pickL, nthL, List.cons_append, List.nil_append]; rfl) ?_
          repeat (go_big_quiet_step (fail))
          refine wpQuiet_nil ?_
          refine wpS_nil ?_
          refine then_normal ?_
          refine ⟨by kernel_rfl, ?_⟩
          exact ⟨congrArg Value.bool hgd.out.symm, (Mem.only (M := [_]) HM13.out [0] rfl)⟩
      rintro vs W' ⟨e51, hm⟩
      simp only [putAll, List.map_cons, List.map_nil, Act.put, List.setIfInBounds_toArray, List.set_cons_succ, List.set_cons_zero]
      rw [e51]
      clear e51
      have HM30 := Lib.hid hm
      clear hm
      refine then_normal ?_
      refine wp_cond_split rfl (fun h31 => ?_) (fun h31 => ?_)
      · obtain ⟨uax, huax0, huaw0, hua0⟩ := who_some (T := A) (k := k) (by simpa using h31)
        have huaxe := Lib.hid huax0
        have huaw := Lib.hid huaw0
        clear huax0 huaw0
        clear h31
        refine wp_region_N [(0, 1), (1, 1), (2, 1), (3, 1), (4, 1)] (by kernel_rfl) ?_
        refine wpS_this [0, 1] rfl (by kernel_rfl) (by simp only [pickL, nthL, List.cons_append, List.nil_append]; rfl) ?_
        repeat (go_big_quiet_step (fail))
        refine wpQuiet_nil ?_
        refine wpS_index (E := elemI) (i := 2) (d := some 54) rfl (by rfl) rfl rfl rfl (HM30.out.row 0 rfl (rowOld hA)) (huaxe.out) rfl ?_
        intro eb32 eo33 hc34
        simp only [Act.put, List.setIfInBounds_toArray, List.set_cons_succ, List.set_cons_zero]
        refine wpS_load1 (i := 3) (d := some 55) (u := .int .i64 uax) rfl (by rfl) rfl rfl (hc34 0 _ rfl) Try.underlying3 rfl rfl ?_
        simp only [Act.put, List.setIfInBounds_toArray, List.set_cons_succ, List.set_cons_zero]
        refine wpS_this [4] rfl (by kernel_rfl) (by simp only [pickL, nthL, List.cons_append, List.nil_append]; rfl) ?_
        repeat (go_big_quiet_step (fail))
        refine wpQuiet_nil ?_
        refine wpS_nil ?_
        refine then_normal ?_
        refine wp_seq ?_
        refine wp_seq ?_
        refine wp_cut_F [56, 57, 58, 59, 60, 61, 62, 63, 64, 65, 66, 67, 68, 69, 70, 71, 72, 73] (fun vs W' => vs 73 = .bool (decide (0 ≤ whoL B k)) ∧ Mem [oldT W0] H w W') ?_ ?_
        · rcases text_ways B k with ⟨hubl, hubw⟩ | ⟨hubl, ubx, hubxe0, hub0, hubw⟩ | ⟨hubl, ubx, hubxe0, hub0, hub8, hubw⟩ | ⟨hubl, ubx, hubxe0, hub0, hub8, hubw⟩
          · have gub1 : decide ((k : Int) < (B.length : Int)) = false := decide_eq_false (by omega)
            have gub1' : decide (k < B.length) = false := decide_eq_false (by omega)
            clear hubl
            replace hubw := Lib.hid hubw
            have hgd : Hid (decide (0 ≤ whoL B k) = false) := Lib.hid (by rw [hubw.out]; exact rfl)
            refine wp_region_N [(0, 1), (1, 1), (2, 1), (3, 1), (4, 1), (5, 1), (6, 1), (7, 1), (8, 1), (9, 1), (10, 1), (11, 1), (12, 1), (13, 1), (14, 1), (15, 1), (16, 1), (17, 1)] (by kernel_rfl) ?_
            refine wpS_this [0, 1, 2, 3, 4, 5, 6] rfl (by kernel_rfl) (by simp only [pickL, nthL, List.cons_append, List.nil_append]; rfl) ?_
            repeat (go_big_quiet_step (fail))
            refine wpQuiet_nil ?_
            refine wpS_skip (i := 7) (d := some 63) rfl (by rfl) rfl ?_
            simp only [Act.put, List.setIfInBounds_toArray, List.set_cons_succ, List.set_cons_zero]
            refine wpS_skip (i := 8) (d := some 64) rfl (by rfl) rfl ?_
            simp only [Act.put, List.setIfInBounds_toArray, List.set_cons_succ, List.set_cons_zero]
            refine wpS_this [9, 10, 11, 12, 13] rfl (by kernel_rfl) (by simp only [pickL, nthL, List.cons_append, List.nil_append]; rfl) ?_
            repeat (go_big_quiet_step (fail))
            refine wpQuiet_nil ?_
            refine wpS_skip (i := 14) (d := some 70) rfl (by rfl) rfl ?_
            simp only [Act.put, List.setIfInBounds_toArray, List.set_cons_succ, List.set_cons_zero]
            refine wpS_skip (i := 15) (d := some 71) rfl (by rfl) rfl ?_
            simp only [Act.put, List.setIfInBounds_toArray, List.set_cons_succ, List.set_cons_zero]
            refine wpS_this [16, 17] rfl (by kernel_rfl) (by simp only [pickL, nthL, List.cons_append, List.nil_append]; rfl) ?_
            repeat (go_big_quiet_step (fail))
            refine wpQuiet_nil ?_
            refine wpS_nil ?_
            refine then_normal ?_
            refine ⟨by kernel_rfl, ?_⟩
            exact ⟨congrArg Value.bool hgd.out.symm, (Mem.only (M := [_]) HM30.out [0] rfl)⟩
          · have gub1 : decide ((k : Int) < (B.length : Int)) = true := decide_eq_true (by omega)
            have gub1' : decide (k < B.length) = true := decide_eq_true (by omega)
            have hubxe := Lib.hid hubxe0
            clear hubxe0
            have gub2 : decide (0 ≤ ubx) = false := decide_eq_false (by omega)
            clear hub0
            replace hubw := Lib.hid hubw
            clear hubl
            have hgd : Hid (decide (0 ≤ whoL B k) = false) := Lib.hid (by rw [hubw.out]; exact rfl)
            refine wp_region_N [(0, 1), (1, 1), (2, 1), (3, 1), (4, 1), (5, 1), (6, 1), (7, 1), (8, 1), (9, 1), (10, 1), (11, 1), (12, 1), (13, 1), (14, 1), (15, 1), (16, 1), (17, 1)] (by kernel_rfl) ?_
            refine wpS_this [0, 1, 2, 3, 4, 5, 6] rfl (by kernel_rfl) (by simp only [pickL, nthL, List.cons_append, List.nil_append]; rfl) ?_
            repeat (go_big_quiet_step (fail))
            refine wpQuiet_nil ?_
            refine wpS_index (E := elemI) (i := 7) (d := some 63) rfl (by rfl) rfl rfl rfl (HM30.out.row 0 rfl (rowOld hB)) (hubxe.out) rfl ?_
            intro eb35 eo36 hc37
            simp only [Act.put, List.setIfInBounds_toArray, List.set_cons_succ, List.set_cons_zero]
            refine wpS_load1 (i := 8) (d := some 64) (u := .int .i64 ubx) rfl (by rfl) rfl rfl (hc37 0 _ rfl) Try.underlying3 rfl rfl ?_
            simp only [Act.put, List.setIfInBounds_toArray, List.set_cons_succ, List.set_cons_zero]
            refine wpS_this [9, 10, 11, 12, 13] rfl (by kernel_rfl) (by simp only [pickL, nthL, List.cons_append, List.nil_append]; rfl) ?_
            repeat (go_big_quiet_step (fail))
            refine wpQuiet_nil ?_
            refine wpS_skip (i := 14) (d := some 70) rfl (by rfl) rfl ?_
            simp only [Act.put, List.setIfInBounds_toArray, List.set_cons_succ, List.set_cons_zero]
            refine wpS_skip (i := 15) (d := some 71) rfl (by rfl) rfl ?_
            simp only [Act.put, List.setIfInBounds_toArray, List.set_cons_succ, List.set_cons_zero]
            refine wpS_this [16, 17] rfl (by kernel_rfl) (by simp only [pickL, nthL, List.cons_append, List.nil_append]; rfl) ?_
            repeat (go_big_quiet_step (fail))
            refine wpQuiet_nil ?_
            refine wpS_nil ?_
            refine then_normal ?_
            refine ⟨by kernel_rfl, ?_⟩
            exact ⟨congrArg Value.bool hgd.out.symm, (Mem.only (M := [_]) HM30.out [0] rfl)⟩
          · have gub1 : decide ((k : Int) < (B.length : Int)) = true := decide_eq_true (by omega)
            have gub1' : decide (k < B.length) = true := decide_eq_true (by omega)
            have hubxe := Lib.hid hubxe0
            clear hubxe0
            have gub2 : decide (0 ≤ ubx) = true := decide_eq_true (by omega)
            have gub3 : decide (ubx < 8) = false := decide_eq_false (by omega)
            clear hub0 hub8
            replace hubw := Lib.hid hubw
            clear hubl
            have hgd : Hid (decide (0 ≤ whoL B k) = false) := Lib.hid (by rw [hubw.out]; exact rfl)
            refine wp_region_N [(0, 1), (1, 1), (2, 1), (3, 1), (4, 1), (5, 1), (6, 1), (7, 1), (8, 1), (9, 1), (10, 1), (11, 1), (12, 1), (13, 1), (14, 1), (15, 1), (16, 1), (17, 1)] (by kernel_rfl) ?_
            refine wpS_this [0, 1, 2, 3, 4, 5, 6] rfl (by kernel_rfl) (by simp only [pickL, nthL, List.cons_append, List.nil_append]; rfl) ?_
            repeat (go_big_quiet_step (fail))
            refine wpQuiet_nil ?_
            refine wpS_index (E := elemI) (i := 7) (d := some 63) rfl (by rfl) rfl rfl rfl (HM30.out.row 0 rfl (rowOld hB)) (hubxe.out) rfl ?_
            intro eb38 eo39 hc40
            simp only [Act.put, List.setIfInBounds_toArray, List.set_cons_succ, List.set_cons_zero]
            refine wpS_load1 (i := 8) (d := some 64) (u := .int .i64 ubx) rfl (by rfl) rfl rfl (hc40 0 _ rfl) Try.underlying3 rfl rfl ?_
            simp only [Act.put, List.setIfInBounds_toArray, List.set_cons_succ, List.set_cons_zero]
            refine wpS_this [9, 10, 11, 12, 13] rfl (by kernel_rfl) (by simp only [pickL, nthL, List.cons_append, List.nil_append]; rfl) ?_
            repeat (go_big_quiet_step (fail))
            refine wpQuiet_nil ?_
            refine wpS_index (E := elemI) (i := 14) (d := some 70) rfl (by rfl) rfl rfl rfl (HM30.out.row 0 rfl (rowOld hB)) (hubxe.out) rfl ?_
            intro eb41 eo42 hc43
            simp only [Act.put, List.setIfInBounds_toArray, List.set_cons_succ, List.set_cons_zero]
            refine wpS_load1 (i := 15) (d := some 71) (u := .int .i64 ubx) rfl (by rfl) rfl rfl (hc43 0 _ rfl) Try.underlying3 rfl rfl ?_
            simp only [Act.put, List.setIfInBounds_toArray, List.set_cons_succ, List.set_cons_zero]
            refine wpS_this [16, 17] rfl (by kernel_rfl) (by simp only [pickL, nthL, List.cons_append, List.nil_append]; rfl) ?_
            repeat (go_big_quiet_step (fail))
            refine wpQuiet_nil ?_
            refine wpS_nil ?_
            refine then_normal ?_
            refine ⟨by kernel_rfl, ?_⟩
            exact ⟨congrArg Value.bool hgd.out.symm, (Mem.only (M := [_]) HM30.out [0] rfl)⟩
          · have gub1 : decide ((k : Int) < (B.length : Int)) = true := decide_eq_true (by omega)
            have gub1' : decide (k < B.length) = true := decide_eq_true (by omega)
            have hubxe := Lib.hid hubxe0
            clear hubxe0
            have gub2 : decide (0 ≤ ubx) = true := decide_eq_true (by omega)
            have gub3 : decide (ubx < 8) = true := decide_eq_true (by omega)
            replace hubw := Lib.hid hubw
            clear hubl
            have hgd : Hid (decide (0 ≤ whoL B k) = true) := Lib.hid (by rw [hubw.out]; exact decide_eq_true hub0)
            refine wp_region_N [(0, 1), (1, 1), (2, 1), (3, 1), (4, 1), (5, 1), (6, 1), (7, 1), (8, 1), (9, 1), (10, 1), (11, 1), (12, 1), (13, 1), (14, 1), (15, 1), (16, 1), (17, 1)] (by kernel_rfl) ?_
            refine wpS_this [0, 1, 2, 3, 4, 5, 6] rfl (by kernel_rfl) (by simp only [pickL, nthL, List.cons_append, List.nil_append]; rfl) ?_
            repeat (go_big_quiet_step (fail))
            refine wpQuiet_nil ?_
            refine wpS_index (E := elemI) (i := 7) (d := some 63) rfl (by rfl) rfl rfl rfl (HM30.out.row 0 rfl (rowOld hB)) (hubxe.out) rfl ?_
            intro eb44 eo45 hc46
            simp only [Act.put, List.setIfInBounds_toArray, List.set_cons_succ, List.set_cons_zero]
            refine wpS_load1 (i := 8) (d := some 64) (u := .int .i64 ubx) rfl (by rfl) rfl rfl (hc46 0 _ rfl) Try.underlying3 rfl rfl ?_
            simp only [Act.put, List.setIfInBounds_toArray, List.set_cons_succ, List.set_cons_zero]
            refine wpS_this [9, 10, 11, 12, 13] rfl (by kernel_rfl) (by simp only [pickL, nthL, List.cons_append, List.nil_append]; rfl) ?_
            repeat (go_big_quiet_step (fail))
            refine wpQuiet_nil ?_
            refine wpS_index (E := elemI) (i := 14) (d := some 70) rfl (by rfl) rfl rfl rfl (HM30.out.row 0 rfl (rowOld hB)) (hubxe.out) rfl ?_
            intro eb47 eo48 hc49
            simp only [Act.put, List.setIfInBounds_toArray, List.set_cons_succ, List.set_cons_zero]
            refine wpS_load1 (i := 15) (d := some 71) (u := .int .i64 ubx) rfl (by rfl) rfl rfl (hc49 0 _ rfl) Try.underlying3 rfl rfl ?_
            simp only [Act.put, List.setIfInBounds_toArray, List.set_cons_succ, List.set_cons_zero]
            refine wpS_this [16, 17] rfl (by kernel_rfl) (by simp only [pickL, nthL, List.cons_append, List.nil_append]; rfl) ?_
            repeat (go_big_quiet_step (fail))
            refine wpQuiet_nil ?_
            refine wpS_nil ?_
            refine then_normal ?_
            refine ⟨by kernel_rfl, ?_⟩
            exact ⟨congrArg Value.bool hgd.out.symm, (Mem.only (M := [_]) HM30.out [0] rfl)⟩
        rintro vs W' ⟨e73, hm⟩
        simp only [putAll, List.map_cons, List.map_nil, Act.put, List.setIfInBounds_toArray, List.set_cons_succ, List.set_cons_zero]
        rw [e73]
        clear e73
        have HM50 := Lib.hid hm
        clear hm
        refine then_normal ?_
        refine wp_cond_split rfl (fun h51 => ?_) (fun h51 => ?_)
        · obtain ⟨ubx, hubx0, hubw0, hub0⟩ := who_some (T := B) (k := k) (by simpa using h51)
          have hubxe := Lib.hid hubx0
          have hubw := Lib.hid hubw0
          clear hubx0 hubw0
          clear h51
          refine wp_region_N [(0, 1), (1, 1), (2, 1), (3, 1), (4, 1)] (by kernel_rfl) ?_
          refine wpS_this [0, 1] rfl (by kernel_rfl) (by simp only [pickL, nthL, List.cons_append, List.nil_append]; rfl) ?_
          repeat (go_big_quiet_step (fail))
          refine wpQuiet_nil ?_
          refine wpS_index (E := elemI) (i := 2) (d := some 76) rfl (by rfl) rfl rfl rfl (HM50.out.row 0 rfl (rowOld hB)) (hubxe.out) rfl ?_
          intro eb52 eo53 hc54
          simp only [Act.put, List.setIfInBounds_toArray, List.set_cons_succ, List.set_cons_zero]
          refine wpS_load1 (i := 3) (d := some 77) (u := .int .i64 ubx) rfl (by rfl) rfl rfl (hc54 0 _ rfl) Try.underlying3 rfl rfl ?_
          simp only [Act.put, List.setIfInBounds_toArray, List.set_cons_succ, List.set_cons_zero]
          refine wpS_this [4] rfl (by kernel_rfl) (by simp only [pickL, nthL, List.cons_append, List.nil_append]; rfl) ?_
          repeat (go_big_quiet_step (fail))
          refine wpQuiet_nil ?_
          refine wpS_nil ?_
          refine then_normal ?_
          refine wp_seq ?_
          by_cases he : (uax : Int) = (ubx : Int)
          · have gC : (ca == cb) = true := by rw [← hca.out, ← hcb.out, huaw.out, hubw.out]; exact beq_iff_eq.2 (by rw [he])
            have gE : (uax == ubx) = true := beq_iff_eq.2 he
            have gD : (ca == 45) = false := beq_eq_false_iff_ne.2 (by rw [← hca.out, huaw.out]; exact fun q => by have := (chO_dash (by omega)).1 q; omega)
            have gN : decide (uax < 0) = false := decide_eq_false (by omega)
            replace he := Lib.hid he
            refine wp_region_M (fun k => k ∈ ([] : List Nat)) [(0, 1), (1, 1), (2, 1), (3, 1), (4, 1), (5, 1), (6, 1), (7, 1), (8, 1), (9, 1), (10, 1), (11, 1), (12, 1), (13, 1), (14, 1), (15, 1), (16, 1), (17, 1), (18, 1), (19, 1)] (by kernel_rfl) (by kernel_rfl) HM50.out ?_
            intro W55 hm56
            have HM57 := Lib.hid hm56
            clear hm56
            refine wpS_this [0, 1] rfl (by kernel_rfl) (by simp only [pickL, nthL, List.cons_append, List.nil_append]; rfl) ?_
            repeat (go_big_quiet_step (fail))
            refine wpQuiet_nil ?_
            refine wpS_read (i := 2) (d := some 80) rfl (by rfl) (run_idxS hba.out hza.out rfl rfl rfl) rfl ?_
            simp only [Act.put, List.setIfInBounds_toArray, List.set_cons_succ, List.set_cons_zero]
            refine wpS_this [3, 4] rfl (by kernel_rfl) (by simp only [pickL, nthL, List.cons_append, List.nil_append]; rfl) ?_
            repeat (go_big_quiet_step (fail))
            refine wpQuiet_nil ?_
            refine wpS_read (i := 5) (d := some 83) rfl (by rfl) (run_idxS hbb.out hzb.out rfl rfl rfl) rfl ?_
            simp only [Act.put, List.setIfInBounds_toArray, List.set_cons_succ, List.set_cons_zero]
            refine wpS_this [6, 7, 8, 9, 10, 11, 12, 13] rfl (by kernel_rfl) (by simp only [pickL, nthL, List.cons_append, List.nil_append]; rfl) ?_
            repeat (go_big_quiet_step (fail))
            refine wpQuiet_nil ?_
            refine wpS_read (i := 14) (d := some 92) rfl (by rfl) (run_idxS hba.out hza.out rfl rfl rfl) rfl ?_
            simp only [Act.put, List.setIfInBounds_toArray, List.set_cons_succ, List.set_cons_zero]
            refine wpS_this [15, 16, 17, 18, 19] rfl (by kernel_rfl) (by simp only [pickL, nthL, List.cons_append, List.nil_append]; rfl) ?_
            repeat (go_big_quiet_step (fail))
            refine wpQuiet_nil ?_
            refine wpS_nil ?_
            refine then_normal ?_
            refine wp_cond_false rfl ?_
            refine wp_skip ?_
            refine block_normal ?_
            refine then_normal ?_
            refine wp_region_N [(0, 1), (1, 1)] (by kernel_rfl) ?_
            refine wpS_this [0, 1] rfl (by kernel_rfl) (by simp only [pickL, nthL, List.cons_append, List.nil_append]; rfl) ?_
            repeat (go_big_quiet_step (fail))
            refine wpQuiet_nil ?_
            refine wpS_nil ?_
            refine then_normal ?_
            refine ⟨by kernel_rfl, ?_⟩
            refine ⟨16 - (k + 1), by omega, k + 1, rfl, rfl, hk1, (Mem.only (M := [_]) HM57.out [0] rfl)⟩
          · have gC : (ca == cb) = false := by rw [← hca.out, ← hcb.out, huaw.out, hubw.out]; exact beq_eq_false_iff_ne.2 (fun q => he ((chO_inj (by omega) (by omega)).1 q))
            have gE : (uax == ubx) = false := beq_eq_false_iff_ne.2 he
            have gD : (ca == 45) = false := beq_eq_false_iff_ne.2 (by rw [← hca.out, huaw.out]; exact fun q => by have := (chO_dash (by omega)).1 q; omega)
            have gN : decide (uax < 0) = false := decide_eq_false (by omega)
            replace he := Lib.hid he
            refine wp_region_M (fun k => k ∈ ([] : List Nat)) [(0, 1), (1, 1), (2, 1), (3, 1), (4, 1), (5, 1), (6, 1), (7, 1), (8, 1), (9, 1), (10, 1), (11, 1), (12, 1), (13, 1), (14, 1), (15, 1), (16, 1), (17, 1), (18, 1), (19, 1)] (by kernel_rfl) (by kernel_rfl) HM50.out ?_
            intro W58 hm59
            have HM60 := Lib.hid hm59
            clear hm59
            refine wpS_this [0, 1] rfl (by kernel_rfl) (by simp only [pickL, nthL, List.cons_append, List.nil_append]; rfl) ?_
            repeat (go_big_quiet_step (fail))
            refine wpQuiet_nil ?_
            refine wpS_read (i := 2) (d := some 80) rfl (by rfl) (run_idxS hba.out hza.out rfl rfl rfl) rfl ?_
            simp only [Act.put, List.setIfInBounds_toArray, List.set_cons_succ, List.set_cons_zero]
            refine wpS_this [3, 4] rfl (by kernel_rfl) (by simp only [pickL, nthL, List.cons_append, List.nil_append]; rfl) ?_
            repeat (go_big_quiet_step (fail))
            refine wpQuiet_nil ?_
            refine wpS_read (i := 5) (d := some 83) rfl (by rfl) (run_idxS hbb.out hzb.out rfl rfl rfl) rfl ?_
            simp only [Act.put, List.setIfInBounds_toArray, List.set_cons_succ, List.set_cons_zero]
            refine wpS_this [6, 7, 8, 9, 10, 11, 12, 13] rfl (by kernel_rfl) (by simp only [pickL, nthL, List.cons_append, List.nil_append]; rfl) ?_
            repeat (go_big_quiet_step (fail))
            refine wpQuiet_nil ?_
            refine wpS_read (i := 14) (d := some 92) rfl (by rfl) (run_idxS hba.out hza.out rfl rfl rfl) rfl ?_
            simp only [Act.put, List.setIfInBounds_toArray, List.set_cons_succ, List.set_cons_zero]
            refine wpS_this [15, 16, 17, 18, 19] rfl (by kernel_rfl) (by simp only [pickL, nthL, List.cons_append, List.nil_append]; rfl) ?_
            repeat (go_big_quiet_step (fail))
            refine wpQuiet_nil ?_
            refine wpS_nil ?_
            refine then_normal ?_
            refine wp_cond_false rfl ?_
            refine wp_skip ?_
            refine block_normal ?_
            refine then_normal ?_
            refine wp_region_N [(0, 1), (1, 1)] (by kernel_rfl) ?_
            refine wpS_this [0, 1] rfl (by kernel_rfl) (by simp only [pickL, nthL, List.cons_append, List.nil_append]; rfl) ?_
            repeat (go_big_quiet_step (fail))
            refine wpQuiet_nil ?_
            refine wpS_nil ?_
            refine then_normal ?_
            refine ⟨by kernel_rfl, ?_⟩
            refine ⟨16 - (k + 1), by omega, k + 1, rfl, rfl, hk1, (Mem.only (M := [_]) HM60.out [0] rfl)⟩
        · have hubw : Hid (whoL B k = -1) := Lib.hid (by have h0 : ¬ 0 ≤ whoL B k := (by simpa using h51); have := whoL_range B k; omega)
          clear h51
          refine wp_skip ?_
          refine then_normal ?_
          refine wp_seq ?_
          have he : ¬ (uax : Int) = ((-1) : Int) := by omega
          · have gC : (ca == cb) = false := by rw [← hca.out, ← hcb.out, huaw.out, hubw.out]; exact beq_eq_false_iff_ne.2 (fun q => he ((chO_inj (by omega) (by omega)).1 q))
            have gE : (uax == (-1)) = false := beq_eq_false_iff_ne.2 he
            have gD : (ca == 45) = false := beq_eq_false_iff_ne.2 (by rw [← hca.out, huaw.out]; exact fun q => by have := (chO_dash (by omega)).1 q; omega)
            have gN : decide (uax < 0) = false := decide_eq_false (by omega)
            replace he := Lib.hid he
            refine wp_region_M (fun k => k ∈ ([] : List Nat)) [(0, 1), (1, 1), (2, 1), (3, 1), (4, 1), (5, 1), (6, 1), (7, 1), (8, 1), (9, 1), (10, 1), (11, 1), (12, 1), (13, 1), (14, 1), (15, 1), (16, 1), (17, 1), (18, 1), (19, 1)] (by kernel_rfl) (by kernel_rfl) HM50.out ?_
            intro W61 hm62
            have HM63 := Lib.hid hm62
            clear hm62
            refine wpS_this [0, 1] rfl (by kernel_rfl) (by simp only [pickL, nthL, List.cons_append, List.nil_append]; rfl) ?_
            repeat (go_big_quiet_step (fail))
            refine wpQuiet_nil ?_
            refine wpS_read (i := 2) (d := some 80) rfl (by rfl) (run_idxS hba.out hza.out rfl rfl rfl) rfl ?_
            simp only [Act.put, List.setIfInBounds_toArray, List.set_cons_succ, List.set_cons_zero]
            refine wpS_this [3, 4] rfl (by kernel_rfl) (by simp only [pickL, nthL, List.cons_append, List.nil_append]; rfl) ?_
            repeat (go_big_quiet_step (fail))
            refine wpQuiet_nil ?_
            refine wpS_read (i := 5) (d := some 83) rfl (by rfl) (run_idxS hbb.out hzb.out rfl rfl rfl) rfl ?_
            simp only [Act.put, List.setIfInBounds_toArray, List.set_cons_succ, List.set_cons_zero]
            refine wpS_this [6, 7, 8, 9, 10, 11, 12, 13] rfl (by kernel_rfl) (by simp only [pickL, nthL, List.cons_append, List.nil_append]; rfl) ?_
            repeat (go_big_quiet_step (fail))
            refine wpQuiet_nil ?_
            refine wpS_read (i := 14) (d := some 92) rfl (by rfl) (run_idxS hba.out hza.out rfl rfl rfl) rfl ?_
            simp only [Act.put, List.setIfInBounds_toArray, List.set_cons_succ, List.set_cons_zero]
            refine wpS_this [15, 16, 17, 18, 19] rfl (by kernel_rfl) (by simp only [pickL, nthL, List.cons_append, List.nil_append]; rfl) ?_
            repeat (go_big_quiet_step (fail))
            refine wpQuiet_nil ?_
            refine wpS_nil ?_
            refine then_normal ?_
            refine wp_cond_false rfl ?_
            refine wp_skip ?_
            refine block_normal ?_
            refine then_normal ?_
            refine wp_region_N [(0, 1), (1, 1)] (by kernel_rfl) ?_
            refine wpS_this [0, 1] rfl (by kernel_rfl) (by simp only [pickL, nthL, List.cons_append, List.nil_append]; rfl) ?_
            repeat (go_big_quiet_step (fail))
            refine wpQuiet_nil ?_
            refine wpS_nil ?_
            refine then_normal ?_
            refine ⟨by kernel_rfl, ?_⟩
            refine ⟨16 - (k + 1), by omega, k + 1, rfl, rfl, hk1, (Mem.only (M := [_]) HM63.out [0] rfl)⟩
      · have huaw : Hid (whoL A k = -1) := Lib.hid (by have h0 : ¬ 0 ≤ whoL A k := (by simpa using h31); have := whoL_range A k; omega)
        clear h31
        refine wp_skip ?_
        refine then_normal ?_
        refine wp_seq ?_
        refine wp_seq ?_
        refine wp_cut_F [56, 57, 58, 59, 60, 61, 62, 63, 64, 65, 66, 67, 68, 69, 70, 71, 72, 73] (fun vs W' => vs 73 = .bool (decide (0 ≤ whoL B k)) ∧ Mem [oldT W0] H w W') ?_ ?_
        · rcases text_ways B k with ⟨hubl, hubw⟩ | ⟨hubl, ubx, hubxe0, hub0, hubw⟩ | ⟨hubl, ubx, hubxe0, hub0, hub8, hubw⟩ | ⟨hubl, ubx, hubxe0, hub0, hub8, hubw⟩
          · have gub1 : decide ((k : Int) < (B.length : Int)) = false := decide_eq_false (by omega)
            have gub1' : decide (k < B.length) = false := decide_eq_false (by omega)
            clear hubl
            replace hubw := Lib.hid hubw
            have hgd : Hid (decide (0 ≤ whoL B k) = false) := Lib.hid (by rw [hubw.out]; exact rfl)
            refine wp_region_N [(0, 1), (1, 1), (2, 1), (3, 1), (4, 1), (5, 1), (6, 1), (7, 1), (8, 1), (9, 1), (10, 1), (11, 1), (12, 1), (13, 1), (14, 1), (15, 1), (16, 1), (17, 1)] (by kernel_rfl) ?_
            refine wpS_this [0, 1, 2, 3, 4, 5, 6] rfl (by kernel_rfl) (by simp only [pickL, nthL, List.cons_append, List.nil_append]; rfl) ?_
            repeat (go_big_quiet_step (fail))
            refine wpQuiet_nil ?_
            refine wpS_skip (i := 7) (d := some 63) rfl (by rfl) rfl ?_
            simp only [Act.put, List.setIfInBounds_toArray, List.set_cons_succ, List.set_cons_zero]
            refine wpS_skip (i := 8) (d := some 64) rfl (by rfl) rfl ?_
            simp only [Act.put, List.setIfInBounds_toArray, List.set_cons_succ, List.set_cons_zero]
            refine wpS_this [9, 10, 11, 12, 13] rfl (by kernel_rfl) (by simp only [pickL, nthL, List.cons_append, List.nil_append]; rfl) ?_
            repeat (go_big_quiet_step (fail))
            refine wpQuiet_nil ?_
            refine wpS_skip (i := 14) (d := some 70) rfl (by rfl) rfl ?_
            simp only [Act.put, List.setIfInBounds_toArray, List.set_cons_succ, List.set_cons_zero]
            refine wpS_skip (i := 15) (d := some 71) rfl (by rfl) rfl ?_
            simp only [Act.put, List.setIfInBounds_toArray, List.set_cons_succ, List.set_cons_zero]
            refine wpS_this [16, 17] rfl (by kernel_rfl) (by simp only [pickL, nthL, List.cons_append, List.nil_append]; rfl) ?_
            repeat (go_big_quiet_step (fail))
            refine wpQuiet_nil ?_
            refine wpS_nil ?_
            refine then_normal ?_
            refine ⟨by kernel_rfl, ?_⟩
            exact ⟨congrArg Value.bool hgd.out.symm, (Mem.only (M := [_]) HM30.out [0] rfl)⟩
          · have gub1 : decide ((k : Int) < (B.length : Int)) = true := decide_eq_true (by omega)
            have gub1' : decide (k < B.length) = true := decide_eq_true (by omega)
            have hubxe := Lib.hid hubxe0
            clear hubxe0
            have gub2 : decide (0 ≤ ubx) = false := decide_eq_false (by omega)
            clear hub0
            replace hubw := Lib.hid hubw
            clear hubl
            have hgd : Hid (decide (0 ≤ whoL B k) = false) := Lib.hid (by rw [hubw.out]; exact rfl)
            refine wp_region_N [(0, 1), (1, 1), (2, 1), (3, 1), (4, 1), (5, 1), (6, 1), (7, 1), (8, 1), (9, 1), (10, 1), (11, 1), (12, 1), (13, 1), (14, 1), (15, 1), (16, 1), (17, 1)] (by kernel_rfl) ?_
            refine wpS_this [0, 1, 2, 3, 4, 5, 6] rfl (by kernel_rfl) (by simp only [pickL, nthL, List.cons_append, List.nil_append]; rfl) ?_
            repeat (go_big_quiet_step (fail))
            refine wpQuiet_nil ?_
            refine wpS_index (E := elemI) (i := 7) (d := some 63) rfl (by rfl) rfl rfl rfl (HM30.out.row 0 rfl (rowOld hB)) (hubxe.out) rfl ?_
            intro eb64 eo65 hc66
            simp only [Act.put, List.setIfInBounds_toArray, List.set_cons_succ, List.set_cons_zero]
            refine wpS_load1 (i := 8) (d := some 64) (u := .int .i64 ubx) rfl (by rfl) rfl rfl (hc66 0 _ rfl) Try.underlying3 rfl rfl ?_
            simp only [Act.put, List.setIfInBounds_toArray, List.set_cons_succ, List.set_cons_zero]
            refine wpS_this [9, 10, 11, 12, 13] rfl (by kernel_rfl) (by simp only [pickL, nthL, List.cons_append, List.nil_append]; rfl) ?_
            repeat (go_big_quiet_step (fail))
            refine wpQuiet_nil ?_
            refine wpS_skip (i := 14) (d := some 70) rfl (by rfl) rfl ?_
            simp only [Act.put, List.setIfInBounds_toArray, List.set_cons_succ, List.set_cons_zero]
            refine wpS_skip (i := 15) (d := some 71) rfl (by rfl) rfl ?_
            simp only [Act.put, List.setIfInBounds_toArray, List.set_cons_succ, List.set_cons_zero]
            refine wpS_this [16, 17] rfl (by kernel_rfl) (by simp only [pickL, nthL, List.cons_append, List.nil_append]; rfl) ?_
            repeat (go_big_quiet_step (fail))
            refine wpQuiet_nil ?_
            refine wpS_nil ?_
            refine then_normal ?_
            refine ⟨by kernel_rfl, ?_⟩
            exact ⟨congrArg Value.bool hgd.out.symm, (Mem.only (M := [_]) HM30.out [0] rfl)⟩
          · have gub1 : decide ((k : Int) < (B.length : Int)) = true := decide_eq_true (by omega)
            have gub1' : decide (k < B.length) = true := decide_eq_true (by omega)
            have hubxe := Lib.hid hubxe0
            clear hubxe0
            have gub2 : decide (0 ≤ ubx) = true := decide_eq_true (by omega)
            have gub3 : decide (ubx < 8) = false := decide_eq_false (by omega)
            clear hub0 hub8
            replace hubw := Lib.hid hubw
            clear hubl
            have hgd : Hid (decide (0 ≤ whoL B k) = false) := Lib.hid (by rw [hubw.out]; exact rfl)
            refine wp_region_N [(0, 1), (1, 1), (2, 1), (3, 1), (4, 1), (5, 1), (6, 1), (7, 1), (8, 1), (9, 1), (10, 1), (11, 1), (12, 1), (13, 1), (14, 1), (15, 1), (16, 1), (17, 1)] (by kernel_rfl) ?_
            refine wpS_this [0, 1, 2, 3, 4, 5, 6] rfl (by kernel_rfl) (by simp only [pickL, nthL, List.cons_append, List.nil_append]; rfl) ?_
            repeat (go_big_quiet_step (fail))
            refine wpQuiet_nil ?_
            refine wpS_index (E := elemI) (i := 7) (d := some 63) rfl (by rfl) rfl rfl rfl (HM30.out.row 0 rfl (rowOld hB)) (hubxe.out) rfl ?_
            intro eb67 eo68 hc69
            simp only [Act.put, List.setIfInBounds_toArray, List.set_cons_succ, List.set_cons_zero]
            refine wpS_load1 (i := 8) (d := some 64) (u := .int .i64 ubx) rfl (by rfl) rfl rfl (hc69 0 _ rfl) Try.underlying3 rfl rfl ?_
            simp only [Act.put, List.setIfInBounds_toArray, List.set_cons_succ, List.set_cons_zero]
            refine wpS_this [9, 10, 11, 12, 13] rfl (by kernel_rfl) (by simp only [pickL, nthL, List.cons_append, List.nil_append]; rfl) ?_
            repeat (go_big_quiet_step (fail))
            refine wpQuiet_nil ?_
            refine wpS_index (E := elemI) (i := 14) (d := some 70) rfl (by rfl) rfl rfl rfl (HM30.out.row 0 rfl (rowOld hB)) (hubxe.out) rfl ?_
            intro eb70 eo71 hc72
            simp only [Act.put, List.setIfInBounds_toArray, List.set_cons_succ, List.set_cons_zero]
            refine wpS_load1 (i := 15) (d := some 71) (u := .int .i64 ubx) rfl (by rfl) rfl rfl (hc72 0 _ rfl) Try.underlying3 rfl rfl ?_
            simp only [Act.put, List.setIfInBounds_toArray, List.set_cons_succ, List.set_cons_zero]
            refine wpS_this [16, 17] rfl (by kernel_rfl) (by simp only [pickL, nthL, List.cons_append, List.nil_append]; rfl) ?_
            repeat (go_big_quiet_step (fail))
            refine wpQuiet_nil ?_
            refine wpS_nil ?_
            refine then_normal ?_
            refine ⟨by kernel_rfl, ?_⟩
            exact ⟨congrArg Value.bool hgd.out.symm, (Mem.only (M := [_]) HM30.out [0] rfl)⟩
          · have gub1 : decide ((k : Int) < (B.length : Int)) = true := decide_eq_true (by omega)
            have gub1' : decide (k < B.length) = true := decide_eq_true (by omega)
            have hubxe := Lib.hid hubxe0
            clear hubxe0
            have gub2 : decide (0 ≤ ubx) = true := decide_eq_true (by omega)
            have gub3 : decide (ubx < 8) = true := decide_eq_true (by omega)
            replace hubw := Lib.hid hubw
            clear hubl
            have hgd : Hid (decide (0 ≤ whoL B k) = true) := Lib.hid (by rw [hubw.out]; exact decide_eq_true hub0)
            refine wp_region_N [(0, 1), (1, 1), (2, 1), (3, 1), (4, 1), (5, 1), (6, 1), (7, 1), (8, 1), (9, 1), (10, 1), (11, 1), (12, 1), (13, 1), (14, 1), (15, 1), (16, 1), (17, 1)] (by kernel_rfl) ?_
            refine wpS_this [0, 1, 2, 3, 4, 5, 6] rfl (by kernel_rfl) (by simp only [pickL, nthL, List.cons_append, List.nil_append]; rfl) ?_
            repeat (go_big_quiet_step (fail))
            refine wpQuiet_nil ?_
            refine wpS_index (E := elemI) (i := 7) (d := some 63) rfl (by rfl) rfl rfl rfl (HM30.out.row 0 rfl (rowOld hB)) (hubxe.out) rfl ?_
            intro eb73 eo74 hc75
            simp only [Act.put, List.setIfInBounds_toArray, List.set_cons_succ, List.set_cons_zero]
            refine wpS_load1 (i := 8) (d := some 64) (u := .int .i64 ubx) rfl (by rfl) rfl rfl (hc75 0 _ rfl) Try.underlying3 rfl rfl ?_
            simp only [Act.put, List.setIfInBounds_toArray, List.set_cons_succ, List.set_cons_zero]
            refine wpS_this [9, 10, 11, 12, 13] rfl (by kernel_rfl) (by simp only [pickL, nthL, List.cons_append, List.nil_append]; rfl) ?_
            repeat (go_big_quiet_step (fail))
            refine wpQuiet_nil ?_
            refine wpS_index (E := elemI) (i := 14) (d := some 70) rfl (by rfl) rfl rfl rfl (HM30.out.row 0 rfl (rowOld hB)) (hubxe.out) rfl ?_
            intro eb76 eo77 hc78
            simp only [Act.put, List.setIfInBounds_toArray, List.set_cons_succ, List.set_cons_zero]
            refine wpS_load1 (i := 15) (d := some 71) (u := .int .i64 ubx) rfl (by rfl) rfl rfl (hc78 0 _ rfl) Try.underlying3 rfl rfl ?_
            simp only [Act.put, List.setIfInBounds_toArray, List.set_cons_succ, List.set_cons_zero]
            refine wpS_this [16, 17] rfl (by kernel_rfl) (by simp only [pickL, nthL, List.cons_append, List.nil_append]; rfl) ?_
            repeat (go_big_quiet_step (fail))
            refine wpQuiet_nil ?_
            refine wpS_nil ?_
            refine then_normal ?_
            refine ⟨by kernel_rfl, ?_⟩
            exact ⟨congrArg Value.bool hgd.out.symm, (Mem.only (M := [_]) HM30.out [0] rfl)⟩
        rintro vs W' ⟨e73, hm⟩
        simp only [putAll, List.map_cons, List.map_nil, Act.put, List.setIfInBounds_toArray, List.set_cons_succ, List.set_cons_zero]
        rw [e73]
        clear e73
        have HM79 := Lib.hid hm
        clear hm
        refine then_normal ?_
        refine wp_cond_split rfl (fun h80 => ?_) (fun h80 => ?_)
        · obtain ⟨ubx, hubx0, hubw0, hub0⟩ := who_some (T := B) (k := k) (by simpa using h80)
          have hubxe := Lib.hid hubx0
          have hubw := Lib.hid hubw0
          clear hubx0 hubw0
          clear h80
          refine wp_region_N [(0, 1), (1, 1), (2, 1), (3, 1), (4, 1)] (by kernel_rfl) ?_
          refine wpS_this [0, 1] rfl (by kernel_rfl) (by simp only [pickL, nthL, List.cons_append, List.nil_append]; rfl) ?_
          repeat (go_big_quiet_step (fail))
          refine wpQuiet_nil ?_
          refine wpS_index (E := elemI) (i := 2) (d := some 76) rfl (by rfl) rfl rfl rfl (HM79.out.row 0 rfl (rowOld hB)) (hubxe.out) rfl ?_
          intro eb81 eo82 hc83
          simp only [Act.put, List.setIfInBounds_toArray, List.set_cons_succ, List.set_cons_zero]
          refine wpS_load1 (i := 3) (d := some 77) (u := .int .i64 ubx) rfl (by rfl) rfl rfl (hc83 0 _ rfl) Try.underlying3 rfl rfl ?_
          simp only [Act.put, List.setIfInBounds_toArray, List.set_cons_succ, List.set_cons_zero]
          refine wpS_this [4] rfl (by kernel_rfl) (by simp only [pickL, nthL, List.cons_append, List.nil_append]; rfl) ?_
          repeat (go_big_quiet_step (fail))
          refine wpQuiet_nil ?_
          refine wpS_nil ?_
          refine then_normal ?_
          refine wp_seq ?_
          have he : ¬ ((-1) : Int) = (ubx : Int) := by omega
          · have gC : (ca == cb) = false := by rw [← hca.out, ← hcb.out, huaw.out, hubw.out]; exact beq_eq_false_iff_ne.2 (fun q => he ((chO_inj (by omega) (by omega)).1 q))
            have gE : ((-1) == ubx) = false := beq_eq_false_iff_ne.2 he
            have gD : (ca == 45) = true := beq_iff_eq.2 (by rw [← hca.out, huaw.out]; exact (chO_dash (by decide)).2 (by decide))
            replace he := Lib.hid he
            refine wp_region_M (fun k => k ∈ ([] : List Nat)) [(0, 1), (1, 1), (2, 1), (3, 1), (4, 1), (5, 1), (6, 1), (7, 1), (8, 1), (9, 1), (10, 1), (11, 1), (12, 1), (13, 1), (14, 1), (15, 1), (16, 1), (17, 1), (18, 1), (19, 1)] (by kernel_rfl) (by kernel_rfl) HM79.out ?_
            intro W84 hm85
            have HM86 := Lib.hid hm85
            clear hm85
            refine wpS_this [0, 1] rfl (by kernel_rfl) (by simp only [pickL, nthL, List.cons_append, List.nil_append]; rfl) ?_
            repeat (go_big_quiet_step (fail))
            refine wpQuiet_nil ?_
            refine wpS_read (i := 2) (d := some 80) rfl (by rfl) (run_idxS hba.out hza.out rfl rfl rfl) rfl ?_
            simp only [Act.put, List.setIfInBounds_toArray, List.set_cons_succ, List.set_cons_zero]
            refine wpS_this [3, 4] rfl (by kernel_rfl) (by simp only [pickL, nthL, List.cons_append, List.nil_append]; rfl) ?_
            repeat (go_big_quiet_step (fail))
            refine wpQuiet_nil ?_
            refine wpS_read (i := 5) (d := some 83) rfl (by rfl) (run_idxS hbb.out hzb.out rfl rfl rfl) rfl ?_
            simp only [Act.put, List.setIfInBounds_toArray, List.set_cons_succ, List.set_cons_zero]
            refine wpS_this [6, 7, 8, 9, 10, 11, 12, 13] rfl (by kernel_rfl) (by simp only [pickL, nthL, List.cons_append, List.nil_append]; rfl) ?_
            repeat (go_big_quiet_step (fail))
            refine wpQuiet_nil ?_
            refine wpS_read (i := 14) (d := some 92) rfl (by rfl) (run_idxS hba.out hza.out rfl rfl rfl) rfl ?_
            simp only [Act.put, List.setIfInBounds_toArray, List.set_cons_succ, List.set_cons_zero]
            refine wpS_this [15, 16, 17, 18, 19] rfl (by kernel_rfl) (by simp only [pickL, nthL, List.cons_append, List.nil_append]; rfl) ?_
            repeat (go_big_quiet_step (fail))
            refine wpQuiet_nil ?_
            refine wpS_nil ?_
            refine then_normal ?_
            refine wp_cond_false rfl ?_
            refine wp_skip ?_
            refine block_normal ?_
            refine then_normal ?_
            refine wp_region_N [(0, 1), (1, 1)] (by kernel_rfl) ?_
            refine wpS_this [0, 1] rfl (by kernel_rfl) (by simp only [pickL, nthL, List.cons_append, List.nil_append]; rfl) ?_
            repeat (go_big_quiet_step (fail))
            refine wpQuiet_nil ?_
            refine wpS_nil ?_
            refine then_normal ?_
            refine ⟨by kernel_rfl, ?_⟩
            refine ⟨16 - (k + 1), by omega, k + 1, rfl, rfl, hk1, (Mem.only (M := [_]) HM86.out [0] rfl)⟩
        · have hubw : Hid (whoL B k = -1) := Lib.hid (by have h0 : ¬ 0 ≤ whoL B k := (by simpa using h80); have := whoL_range B k; omega)
          clear h80
          refine wp_skip ?_
          refine then_normal ?_
          refine wp_seq ?_
          have he : (-1 : Int) = -1 := rfl
          · have gC : (ca == cb) = true := by rw [← hca.out, ← hcb.out, huaw.out, hubw.out]; exact beq_iff_eq.2 (by rw [he])
            have gE : ((-1) == (-1)) = true := beq_iff_eq.2 he
            have gD : (ca == 45) = true := beq_iff_eq.2 (by rw [← hca.out, huaw.out]; exact (chO_dash (by decide)).2 (by decide))
            replace he := Lib.hid he
            refine wp_region_M (fun k => k ∈ ([] : List Nat)) [(0, 1), (1, 1), (2, 1), (3, 1), (4, 1), (5, 1), (6, 1), (7, 1), (8, 1), (9, 1), (10, 1), (11, 1), (12, 1), (13, 1), (14, 1), (15, 1), (16, 1), (17, 1), (18, 1), (19, 1)] (by kernel_rfl) (by kernel_rfl) HM79.out ?_
            intro W87 hm88
            have HM89 := Lib.hid hm88
            clear hm88
            refine wpS_this [0, 1] rfl (by kernel_rfl) (by simp only [pickL, nthL, List.cons_append, List.nil_append]; rfl) ?_
            repeat (go_big_quiet_step (fail))
            refine wpQuiet_nil ?_
            refine wpS_read (i := 2) (d := some 80) rfl (by rfl) (run_idxS hba.out hza.out rfl rfl rfl) rfl ?_
            simp only [Act.put, List.setIfInBounds_toArray, List.set_cons_succ, List.set_cons_zero]
            refine wpS_this [3, 4] rfl (by kernel_rfl) (by simp only [pickL, nthL, List.cons_append, List.nil_append]; rfl) ?_
            repeat (go_big_quiet_step (fail))
            refine wpQuiet_nil ?_
            refine wpS_read (i := 5) (d := some 83) rfl (by rfl) (run_idxS hbb.out hzb.out rfl rfl rfl) rfl ?_
            simp only [Act.put, List.setIfInBounds_toArray, List.set_cons_succ, List.set_cons_zero]
            refine wpS_this [6, 7, 8, 9, 10, 11, 12, 13] rfl (by kernel_rfl) (by simp only [pickL, nthL, List.cons_append, List.nil_append]; rfl) ?_
            repeat (go_big_quiet_step (fail))
            refine wpQuiet_nil ?_
            refine wpS_read (i := 14) (d := some 92) rfl (by rfl) (run_idxS hba.out hza.out rfl rfl rfl) rfl ?_
            simp only [Act.put, List.setIfInBounds_toArray, List.set_cons_succ, List.set_cons_zero]
            refine wpS_this [15, 16, 17, 18, 19] rfl (by kernel_rfl) (by simp only [pickL, nthL, List.cons_append, List.nil_append]; rfl) ?_
            repeat (go_big_quiet_step (fail))
            refine wpQuiet_nil ?_
            refine wpS_nil ?_
            refine then_normal ?_
            refine wp_cond_false rfl ?_
            refine wp_skip ?_
            refine block_normal ?_
            refine then_normal ?_
            refine wp_region_N [(0, 1), (1, 1)] (by kernel_rfl) ?_
            refine wpS_this [0, 1] rfl (by kernel_rfl) (by simp only [pickL, nthL, List.cons_append, List.nil_append]; rfl) ?_
            repeat (go_big_quiet_step (fail))
            refine wpQuiet_nil ?_
            refine wpS_nil ?_
            refine then_normal ?_
            refine ⟨by kernel_rfl, ?_⟩
            refine ⟨16 - (k + 1), by omega, k + 1, rfl, rfl, hk1, (Mem.only (M := [_]) HM89.out [0] rfl)⟩
    · clear h14
      refine wp_exit ?_
      refine then_exit (then_exit (block_exit ?_))
      refine then_normal ?_
      refine wp_seq ?_
      refine wp_region_N [(0, 3), (1, 1)] (by kernel_rfl) ?_
      refine wpS_does0 (i := 0) (d := some 99) (rem := [_]) (out := [_]) rfl (by rfl) rfl Try.call7 (sawake_d)  HM13.out [] rfl covS_nil rfl rfl ?_
      rintro W91 hm90 -
      have HM92 := Lib.hid hm90
      clear hm90
      simp only [Act.put, List.setIfInBounds_toArray, List.set_cons_succ, List.set_cons_zero]
      refine wpS_this [1] rfl (by kernel_rfl) (by simp only [pickL, nthL, List.cons_append, List.nil_append]; rfl) ?_
      repeat (go_big_quiet_step (fail))
      refine wpQuiet_nil ?_
      refine wpS_nil ?_
      refine then_normal ?_
      refine wp_ret ?_
      refine bodyPost_ret (results_tmp rfl _ _ _) rfl ?_
      exact does_ret (Mem.only (M := [_]) HM92.out [0] rfl) rfl rfl

end Go.Proofs.Ythibiejneggmoaa
