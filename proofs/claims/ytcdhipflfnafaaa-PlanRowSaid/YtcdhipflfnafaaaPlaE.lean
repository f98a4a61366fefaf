/- Plans: PlanForms. -/
import Derived.Test.YtcdhipflfnafaaaPlaD
namespace Go.Proofs.Ytcdhipflfnafaaa
open Go Go.RowKit Go.BigFrame

set_option maxHeartbeats 4000000 in
set_option maxRecDepth 100000 in
theorem forms_d (W0 : World) (va : Value) (a1 a2 : Int) (sa : List Int) (ha : SrcE elemI W0 va sa) (vb : Value) (b1 b2 : Int) (sb : List Int) (hb : SrcE elemI W0 vb sb) (n : Int) (vt : Value) (st : List Int) (ht : SrcE elemI W0 vt st) : Does Try.prog 3 #[.agg #[.int .i64 a1, .int .i64 a2, va], .agg #[.int .i64 b1, .int .i64 b2, vb], .int .i64 n, vt] [oldT W0] (.bool true) [oldT W0] := by
  intro w H hp
  have HM0 := Lib.hid (mem_refl hp)
  clear hp
  obtain ⟨pa, ca, rfl⟩ := row_form ha
  obtain ⟨pb, cb, rfl⟩ := row_form hb
  obtain ⟨pt, ct, rfl⟩ := row_form ht
  go_enter Try.func3, Try.ntmps3
  refine wp_seq ?_
  refine wp_region_N [(0, 3), (1, 3), (2, 1)] (by kernel_rfl) ?_
  refine wpS_boxA (i := 0) (dd := 4) rfl (by rfl) rfl rfl HM0.out covS_nil rfl ?_
  rintro b3 W2 hm1 -
  have HM4 := Lib.hid hm1
  clear hm1
  simp only [Act.put, List.setIfInBounds_toArray, List.set_cons_succ, List.set_cons_zero]
  refine wpS_boxA (i := 1) (dd := 5) rfl (by rfl) rfl rfl HM4.out covS_nil rfl ?_
  rintro b7 W6 hm5 -
  have HM8 := Lib.hid hm5
  clear hm5
  simp only [Act.put, List.setIfInBounds_toArray, List.set_cons_succ, List.set_cons_zero]
  refine wpS_this [2] rfl (by kernel_rfl) (by simp only [pickL, nthL, List.cons_append, List.nil_append]; rfl) ?_
  repeat (go_big_quiet_step (fail))
  refine wpQuiet_nil ?_
  refine wpS_nil ?_
  refine then_normal ?_
  refine wp_seq ?_
  refine wp_seq ?_
  rcases (show ¬ (sa.length ≤ 100 ∧ sb.length ≤ 100) ∨ ((sa.length ≤ 100 ∧ sb.length ≤ 100) ∧ ¬ st.length ≤ 100) ∨ ((sa.length ≤ 100 ∧ sb.length ≤ 100) ∧ st.length ≤ 100) from by omega) with hw | ⟨hw, wt⟩ | ⟨hw, wt⟩
  · have hfw : Hid (fewB [⟨a1, a2, pa, sa.length, ca⟩, ⟨b1, b2, pb, sb.length, cb⟩] = false) := Lib.hid ((few2 _ _).trans (decide_eq_false hw))
    refine wp_region_N [(0, 1), (1, 1), (2, 3), (3, 3), (4, 1), (5, 1), (6, 1), (7, 1), (8, 1), (9, 1)] (by kernel_rfl) ?_
    have Cb4 := Mem.cell HM8.out 1 rfl
    have Cb5 := Mem.cell HM8.out 0 rfl
    refine wpS_this [0, 1] rfl (by kernel_rfl) (by simp only [pickL, nthL, List.cons_append, List.nil_append]; rfl) ?_
    repeat (go_big_quiet_step (fail))
    refine wpQuiet_nil ?_
    clear Cb4 Cb5
    refine wpS_buildN elemP (i := 2) (dd := 15) (n := 2) (xs := [⟨a1, a2, pa, sa.length, ca⟩, ⟨b1, b2, pb, sb.length, cb⟩]) (cs := #[.int .i64 a1, .int .i64 a2, .slice pa sa.length ca, .int .i64 b1, .int .i64 b2, .slice pb sb.length cb]) rfl (by rfl) (fun _ => by kernel_rfl) rfl rfl HM8.out covS_nil rfl ?_
    rintro b11 W12 hm13 -
    have HM14 := Lib.hid hm13
    clear hm13
    simp only [Act.put, List.setIfInBounds_toArray, List.set_cons_succ, List.set_cons_zero]
    refine wpS_does1 (i := 3) (d := some 16) (rem := [_, _, _]) (out := [_, _, _, _]) rfl (by rfl) rfl Try.call8 (few_d (rowT elemP _ _) _ _ rowOwnE (Nat.le_of_ble_eq_true rfl)) rfl HM14.out [0] rfl covS_nil rfl rfl ?_
    rintro W16 hm15 -
    rw [hfw.out]
    have HM17 := Lib.hid hm15
    clear hm15
    simp only [Act.put, List.setIfInBounds_toArray, List.set_cons_succ, List.set_cons_zero]
    refine wpS_this [4, 5, 6, 7, 8, 9] rfl (by kernel_rfl) (by simp only [pickL, nthL, List.cons_append, List.nil_append]; rfl) ?_
    repeat (go_big_quiet_step (fail))
    refine wpQuiet_nil ?_
    refine wpS_nil ?_
    refine then_normal ?_
    refine wp_cond_true rfl ?_
    refine wp_seq ?_
    refine wp_region_N [(0, 3), (1, 1)] (by kernel_rfl) ?_
    refine wpS_does0 (i := 0) (d := some 23) (rem := [_, _, _, _]) (out := [_, _, _, _]) rfl (by rfl) rfl Try.call9 (awake_d)  HM17.out [] rfl covS_nil rfl rfl ?_
    rintro W19 hm18 -
    have HM20 := Lib.hid hm18
    clear hm18
    simp only [Act.put, List.setIfInBounds_toArray, List.set_cons_succ, List.set_cons_zero]
    refine wpS_this [1] rfl (by kernel_rfl) (by simp only [pickL, nthL, List.cons_append, List.nil_append]; rfl) ?_
    repeat (go_big_quiet_step (fail))
    refine wpQuiet_nil ?_
    refine wpS_nil ?_
    refine then_normal ?_
    refine wp_ret ?_
    refine then_ret ?_
    refine bodyPost_ret (results_tmp rfl _ _ _) rfl ?_
    exact does_ret (Mem.only (M := [_]) HM20.out [3] rfl) rfl rfl
  · have hfw : Hid (fewB [⟨a1, a2, pa, sa.length, ca⟩, ⟨b1, b2, pb, sb.length, cb⟩] = true) := Lib.hid ((few2 _ _).trans (decide_eq_true hw))
    have gt : decide (100 < st.length) = true := decide_eq_true (by omega)
    have gt' : decide ((100 : Int) < (st.length : Int)) = true := decide_eq_true (by omega)
    refine wp_region_N [(0, 1), (1, 1), (2, 3), (3, 3), (4, 1), (5, 1), (6, 1), (7, 1), (8, 1), (9, 1)] (by kernel_rfl) ?_
    have Cb4 := Mem.cell HM8.out 1 rfl
    have Cb5 := Mem.cell HM8.out 0 rfl
    refine wpS_this [0, 1] rfl (by kernel_rfl) (by simp only [pickL, nthL, List.cons_append, List.nil_append]; rfl) ?_
    repeat (go_big_quiet_step (fail))
    refine wpQuiet_nil ?_
    clear Cb4 Cb5
    refine wpS_buildN elemP (i := 2) (dd := 15) (n := 2) (xs := [⟨a1, a2, pa, sa.length, ca⟩, ⟨b1, b2, pb, sb.length, cb⟩]) (cs := #[.int .i64 a1, .int .i64 a2, .slice pa sa.length ca, .int .i64 b1, .int .i64 b2, .slice pb sb.length cb]) rfl (by rfl) (fun _ => by kernel_rfl) rfl rfl HM8.out covS_nil rfl ?_
    rintro b23 W24 hm25 -
    have HM26 := Lib.hid hm25
    clear hm25
    simp only [Act.put, List.setIfInBounds_toArray, List.set_cons_succ, List.set_cons_zero]
    refine wpS_does1 (i := 3) (d := some 16) (rem := [_, _, _]) (out := [_, _, _, _]) rfl (by rfl) rfl Try.call8 (few_d (rowT elemP _ _) _ _ rowOwnE (Nat.le_of_ble_eq_true rfl)) rfl HM26.out [0] rfl covS_nil rfl rfl ?_
    rintro W28 hm27 -
    rw [hfw.out]
    have HM29 := Lib.hid hm27
    clear hm27
    simp only [Act.put, List.setIfInBounds_toArray, List.set_cons_succ, List.set_cons_zero]
    refine wpS_this [4, 5, 6, 7, 8, 9] rfl (by kernel_rfl) (by simp only [pickL, nthL, List.cons_append, List.nil_append]; rfl) ?_
    repeat (go_big_quiet_step (fail))
    refine wpQuiet_nil ?_
    refine wpS_nil ?_
    refine then_normal ?_
    refine wp_cond_true rfl ?_
    refine wp_seq ?_
    refine wp_region_N [(0, 3), (1, 1)] (by kernel_rfl) ?_
    refine wpS_does0 (i := 0) (d := some 23) (rem := [_, _, _, _]) (out := [_, _, _, _]) rfl (by rfl) rfl Try.call9 (awake_d)  HM29.out [] rfl covS_nil rfl rfl ?_
    rintro W31 hm30 -
    have HM32 := Lib.hid hm30
    clear hm30
    simp only [Act.put, List.setIfInBounds_toArray, List.set_cons_succ, List.set_cons_zero]
    refine wpS_this [1] rfl (by kernel_rfl) (by simp only [pickL, nthL, List.cons_append, List.nil_append]; rfl) ?_
    repeat (go_big_quiet_step (fail))
    refine wpQuiet_nil ?_
    refine wpS_nil ?_
    refine then_normal ?_
    refine wp_ret ?_
    refine then_ret ?_
    refine bodyPost_ret (results_tmp rfl _ _ _) rfl ?_
    exact does_ret (Mem.only (M := [_]) HM32.out [3] rfl) rfl rfl
  · have hfw : Hid (fewB [⟨a1, a2, pa, sa.length, ca⟩, ⟨b1, b2, pb, sb.length, cb⟩] = true) := Lib.hid ((few2 _ _).trans (decide_eq_true hw))
    have gt : decide (100 < st.length) = false := decide_eq_false (by omega)
    have gt' : decide ((100 : Int) < (st.length : Int)) = false := decide_eq_false (by omega)
    have la : sa.length ≤ 1000 := by omega
    have lb : sb.length ≤ 1000 := by omega
    have lt : st.length ≤ 1000 := by omega
    refine wp_region_N [(0, 1), (1, 1), (2, 3), (3, 3), (4, 1), (5, 1), (6, 1), (7, 1), (8, 1), (9, 1)] (by kernel_rfl) ?_
    have Cb4 := Mem.cell HM8.out 1 rfl
    have Cb5 := Mem.cell HM8.out 0 rfl
    refine wpS_this [0, 1] rfl (by kernel_rfl) (by simp only [pickL, nthL, List.cons_append, List.nil_append]; rfl) ?_
    repeat (go_big_quiet_step (fail))
    refine wpQuiet_nil ?_
    clear Cb4 Cb5
    refine wpS_buildN elemP (i := 2) (dd := 15) (n := 2) (xs := [⟨a1, a2, pa, sa.length, ca⟩, ⟨b1, b2, pb, sb.length, cb⟩]) (cs := #[.int .i64 a1, .int .i64 a2, .slice pa sa.length ca, .int .i64 b1, .int .i64 b2, .slice pb sb.length cb]) rfl (by rfl) (fun _ => by kernel_rfl) rfl rfl HM8.out covS_nil rfl ?_
    rintro b35 W36 hm37 -
    have HM38 := Lib.hid hm37
    clear hm37
    simp only [Act.put, List.setIfInBounds_toArray, List.set_cons_succ, List.set_cons_zero]
    refine wpS_does1 (i := 3) (d := some 16) (rem := [_, _, _]) (out := [_, _, _, _]) rfl (by rfl) rfl Try.call8 (few_d (rowT elemP _ _) _ _ rowOwnE (Nat.le_of_ble_eq_true rfl)) rfl HM38.out [0] rfl covS_nil rfl rfl ?_
    rintro W40 hm39 -
    rw [hfw.out]
    have HM41 := Lib.hid hm39
    clear hm39
    simp only [Act.put, List.setIfInBounds_toArray, List.set_cons_succ, List.set_cons_zero]
    refine wpS_this [4, 5, 6, 7, 8, 9] rfl (by kernel_rfl) (by simp only [pickL, nthL, List.cons_append, List.nil_append]; rfl) ?_
    repeat (go_big_quiet_step (fail))
    refine wpQuiet_nil ?_
    refine wpS_nil ?_
    refine then_normal ?_
    refine wp_cond_false rfl ?_
    refine wp_skip ?_
    refine then_normal ?_
    refine wp_seq ?_
    obtain ⟨x1, x2, sx, xe, hx'⟩ := next_letters (nextP (a1, a2, sa) n st)
    have hx := Lib.hid hx'
    clear hx'
    obtain ⟨j1, j2, sj, hj'⟩ := plan_letters (joinP (a1, a2, sa) (b1, b2, sb))
    have hj := Lib.hid hj'
    clear hj'
    obtain ⟨c, hc'⟩ := int_letter (cmpP (a1, a2, sa) (b1, b2, sb))
    have hc := Lib.hid hc'
    clear hc'
    obtain ⟨m, hm'⟩ := bool_letter (mayP (a1, a2, sa))
    have hm := Lib.hid hm'
    clear hm'
    obtain ⟨d, hd'⟩ := bool_letter (decide (((a1, a2, sa) : Pl) = (b1, b2, sb)))
    have hd := Lib.hid hd'
    clear hd'
    have g1 : (m == m) = true := beq_self_eq_true _
    have g2 : (c == c) = true := beq_self_eq_true _
    have g3 : (xe == xe) = true := beq_self_eq_true _
    have g4 : (d == d) = true := beq_self_eq_true _
    have lx : sx.length ≤ 1000 := nextP_len hx.out lt
    have lj : sj.length ≤ 1000 := joinP_len hj.out la lb
    refine wp_region_N [(0, 1), (1, 1), (2, 1), (3, 3), (4, 1), (5, 1), (6, 1), (7, 3), (8, 3), (9, 1)] (by kernel_rfl) ?_
    have Cb4 := Mem.cell HM41.out 2 rfl
    refine wpS_this [0, 1, 2] rfl (by kernel_rfl) (by simp only [pickL, nthL, List.cons_append, List.nil_append]; rfl) ?_
    repeat (go_big_quiet_step (fail))
    refine wpQuiet_nil ?_
    clear Cb4
    refine wpS_doesU3 (i := 3) (d := some 28) (rem := [_, _, _]) rfl (by rfl) rfl Try.call10 (next_d (oldT W0) _ a1 a2 sa (srcOld ha) la n _ st (srcOld ht) lt x1 x2 sx xe hx.out) rfl rfl rfl HM41.out [3] rfl covS_nil (fun _ => rfl) rfl ?_
    rintro u44 W43 hm42 -
    obtain ⟨px, cx, rfl, hm42q⟩ := Mem.next rfl hm42
    clear hm42
    have HM45 := Lib.hid hm42q
    clear hm42q
    simp only [Act.put, List.setIfInBounds_toArray, List.set_cons_succ, List.set_cons_zero]
    refine wpS_this [4, 5, 6] rfl (by kernel_rfl) (by simp only [pickL, nthL, List.cons_append, List.nil_append]; rfl) ?_
    repeat (go_big_quiet_step (fail))
    refine wpQuiet_nil ?_
    refine wpS_alloc (i := 7) (dd := 9) (z := .agg #[.int .i64 0, .int .i64 0, .slice none 0 0]) (cs := #[.int .i64 0, .int .i64 0, .slice none 0 0]) rfl (by rfl) rfl (by kernel_rfl) rfl HM45.out covS_nil rfl ?_
    rintro b48 W47 hm46 -
    have HM49 := Lib.hid hm46
    clear hm46
    simp only [Act.put, List.setIfInBounds_toArray, List.set_cons_succ, List.set_cons_zero]
    refine wpS_storeA (i := 8) (L2 := [_, _, _, _, _]) (cs' := [_, _, _]) rfl (by rfl) rfl rfl rfl (by kernel_rfl) (by rfl) HM49.out 0 rfl rfl rfl rfl covS_nil rfl ?_
    rintro W51 hm50 -
    have HM52 := Lib.hid hm50
    clear hm50
    refine wpS_this [9] rfl (by kernel_rfl) (by simp only [pickL, nthL, List.cons_append, List.nil_append]; rfl) ?_
    repeat (go_big_quiet_step (fail))
    refine wpQuiet_nil ?_
    refine wpS_nil ?_
    refine then_normal ?_
    refine wp_seq ?_
    refine wp_region_N [(0, 1), (1, 1), (2, 1), (3, 3), (4, 1), (5, 1), (6, 1), (7, 3), (8, 3), (9, 1)] (by kernel_rfl) ?_
    have Cb4 := Mem.cell HM52.out 5 rfl
    refine wpS_this [0, 1, 2] rfl (by kernel_rfl) (by simp only [pickL, nthL, List.cons_append, List.nil_append]; rfl) ?_
    repeat (go_big_quiet_step (fail))
    refine wpQuiet_nil ?_
    clear Cb4
    refine wpS_doesU3 (i := 3) (d := some 35) (rem := [_, _, _, _, _]) rfl (by rfl) rfl Try.call11 (rnext_d (oldT W0) _ a1 a2 sa (srcOld ha) la n _ st (srcOld ht) lt x1 x2 sx xe hx.out) rfl rfl rfl HM52.out [2] rfl covS_nil (fun _ => rfl) rfl ?_
    rintro u55 W54 hm53 -
    obtain ⟨py, cy, rfl, hm53q⟩ := Mem.next rfl hm53
    clear hm53
    have HM56 := Lib.hid hm53q
    clear hm53q
    simp only [Act.put, List.setIfInBounds_toArray, List.set_cons_succ, List.set_cons_zero]
    refine wpS_this [4, 5, 6] rfl (by kernel_rfl) (by simp only [pickL, nthL, List.cons_append, List.nil_append]; rfl) ?_
    repeat (go_big_quiet_step (fail))
    refine wpQuiet_nil ?_
    refine wpS_alloc (i := 7) (dd := 11) (z := .agg #[.int .i64 0, .int .i64 0, .slice none 0 0]) (cs := #[.int .i64 0, .int .i64 0, .slice none 0 0]) rfl (by rfl) rfl (by kernel_rfl) rfl HM56.out covS_nil rfl ?_
    rintro b59 W58 hm57 -
    have HM60 := Lib.hid hm57
    clear hm57
    simp only [Act.put, List.setIfInBounds_toArray, List.set_cons_succ, List.set_cons_zero]
    refine wpS_storeA (i := 8) (L2 := [_, _, _, _, _, _, _]) (cs' := [_, _, _]) rfl (by rfl) rfl rfl rfl (by kernel_rfl) (by rfl) HM60.out 0 rfl rfl rfl rfl covS_nil rfl ?_
    rintro W62 hm61 -
    have HM63 := Lib.hid hm61
    clear hm61
    refine wpS_this [9] rfl (by kernel_rfl) (by simp only [pickL, nthL, List.cons_append, List.nil_append]; rfl) ?_
    repeat (go_big_quiet_step (fail))
    refine wpQuiet_nil ?_
    refine wpS_nil ?_
    refine then_normal ?_
    refine wp_seq ?_
    refine wp_region_M (fun k => k ∈ ([b3, b7, b48, b59] : List Nat)) [(0, 1), (2, 2), (1, 3), (3, 3), (4, 1), (5, 1), (6, 1), (7, 1), (9, 2), (10, 2), (8, 3), (11, 3), (12, 1), (13, 1), (14, 1), (15, 1), (16, 1), (18, 2), (19, 2), (17, 3), (20, 3), (21, 3), (22, 1), (23, 1), (24, 1), (25, 1), (27, 2), (28, 2), (26, 3), (29, 3), (30, 1), (31, 1), (32, 1), (33, 1), (34, 1), (35, 3), (36, 1), (37, 1), (38, 1), (39, 1), (40, 1), (41, 1), (42, 1), (43, 3), (44, 1), (45, 1)] (by kernel_rfl) (by kernel_rfl) HM63.out ?_
    intro W64 hm65
    have HM66 := Lib.hid hm65
    clear hm65
    have Cb4 := Mem.cell HM66.out 7 rfl
    refine wpS_this [0] rfl (by kernel_rfl) (by simp only [pickL, nthL, List.cons_append, List.nil_append]; rfl) ?_
    repeat (go_big_quiet_step (fail))
    refine wpQuiet_nil ?_
    clear Cb4
    have Cb4 := Mem.cell HM66.out 7 rfl
    refine wpS_stay [2] rfl (by kernel_rfl) (by simp only [pickL, nthL, List.cons_append, List.nil_append]; rfl) ?_
    repeat (go_big_quiet_step (fail))
    refine wpQuiet_nil ?_
    clear Cb4
    refine wpS_does1 (i := 1) (d := some 39) (rem := [_, _, _, _, _, _, _]) (out := [_, _, _, _, _, _, _, _]) rfl (by rfl) rfl Try.call12 (may_d (oldT W0) _ a1 a2 sa (srcOld ha) la) rfl HM66.out [2] rfl (covS_box 6 rfl (covS_box 5 rfl (covS_box 2 rfl (covS_box 0 rfl covS_nil)))) rfl rfl ?_
    rintro W68 hm67 hg69
    rw [hm.out]
    have HM70 := Lib.hid hm67
    clear hm67
    simp only [Act.put, List.setIfInBounds_toArray, List.set_cons_succ, List.set_cons_zero]
    refine wpS_does1 (i := 3) (d := some 41) (rem := [_, _, _, _, _, _, _]) (out := [_, _, _, _, _, _, _, _]) rfl (by rfl) rfl Try.call13 (rmay_d (oldT W0) _ a1 a2 sa (srcOld ha) la) rfl HM70.out [0] rfl (covS_box 6 rfl (covS_box 5 rfl (covS_box 2 rfl (covS_box 0 rfl covS_nil)))) rfl rfl ?_
    rintro W72 hm71 hg73
    rw [hm.out]
    have HM74 := Lib.hid hm71
    clear hm71
    simp only [Act.put, List.setIfInBounds_toArray, List.set_cons_succ, List.set_cons_zero]
    have Cb4 := Mem.cell HM74.out 7 rfl
    have Cb5 := Mem.cell HM74.out 6 rfl
    refine wpS_this [4, 5, 6, 7] rfl (by kernel_rfl) (by simp only [pickL, nthL, List.cons_append, List.nil_append]; rfl) ?_
    repeat (go_big_quiet_step (fail))
    refine wpQuiet_nil ?_
    clear Cb4 Cb5
    have Cb4 := Mem.cell HM74.out 7 rfl
    have Cb5 := Mem.cell HM74.out 6 rfl
    refine wpS_stay [9, 10] rfl (by kernel_rfl) (by simp only [pickL, nthL, List.cons_append, List.nil_append]; rfl) ?_
    repeat (go_big_quiet_step (fail))
    refine wpQuiet_nil ?_
    clear Cb4 Cb5
    refine wpS_does2 (i := 8) (d := some 46) (rem := [_, _, _, _, _, _, _]) (out := [_, _, _, _, _, _, _, _]) rfl (by rfl) rfl Try.call14 (compare_d (oldT W0) _ a1 a2 sa (srcOld ha) la _ b1 b2 sb (srcOld hb) lb) rfl rfl HM74.out [0] rfl (covS_box 6 rfl (covS_box 5 rfl (covS_box 2 rfl (covS_box 0 rfl covS_nil)))) rfl rfl ?_
    rintro W76 hm75 hg77
    rw [hc.out]
    have HM78 := Lib.hid hm75
    clear hm75
    simp only [Act.put, List.setIfInBounds_toArray, List.set_cons_succ, List.set_cons_zero]
    refine wpS_does2 (i := 11) (d := some 49) (rem := [_, _, _, _, _, _, _]) (out := [_, _, _, _, _, _, _, _]) rfl (by rfl) rfl Try.call15 (rcompare_d (oldT W0) _ a1 a2 sa (srcOld ha) la _ b1 b2 sb (srcOld hb) lb) rfl rfl HM78.out [0] rfl (covS_box 6 rfl (covS_box 5 rfl (covS_box 2 rfl (covS_box 0 rfl covS_nil)))) rfl rfl ?_
    rintro W80 hm79 hg81
    rw [hc.out]
    have HM82 := Lib.hid hm79
    clear hm79
    simp only [Act.put, List.setIfInBounds_toArray, List.set_cons_succ, List.set_cons_zero]
    have Cb4 := Mem.cell HM82.out 7 rfl
    have Cb5 := Mem.cell HM82.out 6 rfl
    refine wpS_this [12, 13, 14, 15, 16] rfl (by kernel_rfl) (by simp only [pickL, nthL, List.cons_append, List.nil_append]; rfl) ?_
    repeat (go_big_quiet_step (fail))
    refine wpQuiet_nil ?_
    clear Cb4 Cb5
    have Cb4 := Mem.cell HM82.out 7 rfl
    have Cb5 := Mem.cell HM82.out 6 rfl
    refine wpS_stay [18, 19] rfl (by kernel_rfl) (by simp only [pickL, nthL, List.cons_append, List.nil_append]; rfl) ?_
    repeat (go_big_quiet_step (fail))
    refine wpQuiet_nil ?_
    clear Cb4 Cb5
    refine wpS_doesU2 (i := 17) (d := some 55) (rem := [_, _, _, _, _, _, _]) rfl (by rfl) rfl Try.call17 (join_d (oldT W0) _ a1 a2 sa (srcOld ha) la _ b1 b2 sb (srcOld hb) lb j1 j2 sj hj.out) rfl rfl HM82.out [0] rfl (covS_box 6 rfl (covS_box 5 rfl (covS_box 2 rfl (covS_box 0 rfl covS_nil)))) (fun _ => rfl) rfl ?_
    rintro u86 W84 hm83 hg85
    obtain ⟨pj, cj, rfl, hm83q⟩ := Mem.plan rfl hm83
    clear hm83
    have HM87 := Lib.hid hm83q
    clear hm83q
    simp only [Act.put, List.setIfInBounds_toArray, List.set_cons_succ, List.set_cons_zero]
    refine wpS_doesU2 (i := 20) (d := some 58) (rem := [_, _, _, _, _, _, _, _]) rfl (by rfl) rfl Try.call18 (rjoin_d (oldT W0) _ a1 a2 sa (srcOld ha) la _ b1 b2 sb (srcOld hb) lb j1 j2 sj hj.out) rfl rfl HM87.out [1] rfl (covS_box 7 rfl (covS_box 6 rfl (covS_box 3 rfl (covS_box 1 rfl covS_nil)))) (fun _ => rfl) rfl ?_
    rintro u91 W89 hm88 hg90
    obtain ⟨pk, ck, rfl, hm88q⟩ := Mem.plan rfl hm88
    clear hm88
    have HM92 := Lib.hid hm88q
    clear hm88q
    simp only [Act.put, List.setIfInBounds_toArray, List.set_cons_succ, List.set_cons_zero]
    refine wpS_does2 (i := 21) (d := some 59) (rem := [_, _, _, _, _, _, _, _]) (out := [_, _, _, _, _, _, _, _, _, _]) rfl (by rfl) rfl Try.call16 (Does.ofList (same_d (listT [_, _]) _ j1 j2 sj (srcL 0 rfl rowT_reads) lj _ j1 j2 sj (srcL 1 rfl rowT_reads) lj)) rfl rfl HM92.out [2, 0] rfl (covS_box 7 rfl (covS_box 6 rfl (covS_box 3 rfl (covS_box 1 rfl covS_nil)))) rfl rfl ?_
    rintro W94 hm93 hg95
    rw [same_self]
    have HM96 := Lib.hid hm93
    clear hm93
    simp only [Act.put, List.setIfInBounds_toArray, List.set_cons_succ, List.set_cons_zero]
    have Cb4 := Mem.cell HM96.out 9 rfl
    have Cb5 := Mem.cell HM96.out 8 rfl
    refine wpS_this [22, 23, 24, 25] rfl (by kernel_rfl) (by simp only [pickL, nthL, List.cons_append, List.nil_append]; rfl) ?_
    repeat (go_big_quiet_step (fail))
    refine wpQuiet_nil ?_
    clear Cb4 Cb5
    have Cb4 := Mem.cell HM96.out 9 rfl
    have Cb5 := Mem.cell HM96.out 8 rfl
    refine wpS_stay [27, 28] rfl (by kernel_rfl) (by simp only [pickL, nthL, List.cons_append, List.nil_append]; rfl) ?_
    repeat (go_big_quiet_step (fail))
    refine wpQuiet_nil ?_
    clear Cb4 Cb5
    refine wpS_does2 (i := 26) (d := some 64) (rem := [_, _, _, _, _, _, _, _, _]) (out := [_, _, _, _, _, _, _, _, _, _]) rfl (by rfl) rfl Try.call19 (psame_d (oldT W0) _ a1 a2 sa (srcOld ha) la _ b1 b2 sb (srcOld hb) lb) rfl rfl HM96.out [2] rfl (covS_box 8 rfl (covS_box 7 rfl (covS_box 4 rfl (covS_box 2 rfl covS_nil)))) rfl rfl ?_
    rintro W98 hm97 hg99
    rw [hd.out]
    have HM100 := Lib.hid hm97
    clear hm97
    simp only [Act.put, List.setIfInBounds_toArray, List.set_cons_succ, List.set_cons_zero]
    refine wpS_does2 (i := 29) (d := some 67) (rem := [_, _, _, _, _, _, _, _, _]) (out := [_, _, _, _, _, _, _, _, _, _]) rfl (by rfl) rfl Try.call16 (same_d (oldT W0) _ a1 a2 sa (srcOld ha) la _ b1 b2 sb (srcOld hb) lb) rfl rfl HM100.out [0] rfl (covS_box 8 rfl (covS_box 7 rfl (covS_box 4 rfl (covS_box 2 rfl covS_nil)))) rfl rfl ?_
    rintro W102 hm101 hg103
    rw [hd.out]
    have HM104 := Lib.hid hm101
    clear hm101
    simp only [Act.put, List.setIfInBounds_toArray, List.set_cons_succ, List.set_cons_zero]
    have Cb9 := Mem.cell HM104.out 5 rfl
    have Cb11 := Mem.cell HM104.out 3 rfl
    refine wpS_this [30, 31, 32, 33, 34] rfl (by kernel_rfl) (by simp only [pickL, nthL, List.cons_append, List.nil_append]; rfl) ?_
    repeat (go_big_quiet_step (fail))
    refine wpQuiet_nil ?_
    clear Cb9 Cb11
    refine wpS_does2 (i := 35) (d := some 73) (rem := [_, _, _, _, _, _, _, _]) (out := [_, _, _, _, _, _, _, _, _, _]) rfl (by rfl) rfl Try.call16 (Does.ofList (same_d (listT [_, _]) _ x1 x2 sx (srcL 0 rfl rowT_reads) lx _ x1 x2 sx (srcL 1 rfl rowT_reads) lx)) rfl rfl HM104.out [6, 4] rfl (covS_box 7 rfl (covS_box 6 rfl (covS_box 4 rfl (covS_box 3 rfl covS_nil)))) rfl rfl ?_
    rintro W106 hm105 hg107
    rw [same_self]
    have HM108 := Lib.hid hm105
    clear hm105
    simp only [Act.put, List.setIfInBounds_toArray, List.set_cons_succ, List.set_cons_zero]
    refine wpS_this [36, 37, 38, 39, 40, 41, 42] rfl (by kernel_rfl) (by simp only [pickL, nthL, List.cons_append, List.nil_append]; rfl) ?_
    repeat (go_big_quiet_step (fail))
    refine wpQuiet_nil ?_
    refine wpS_does0 (i := 43) (d := some 81) (rem := [_, _, _, _, _, _, _, _, _, _]) (out := [_, _, _, _, _, _, _, _, _, _]) rfl (by rfl) rfl Try.call9 (awake_d)  HM108.out [] rfl (covS_box 9 rfl (covS_box 8 rfl (covS_box 6 rfl (covS_box 5 rfl covS_nil)))) rfl rfl ?_
    rintro W110 hm109 hg111
    have HM112 := Lib.hid hm109
    clear hm109
    simp only [Act.put, List.setIfInBounds_toArray, List.set_cons_succ, List.set_cons_zero]
    refine wpS_this [44, 45] rfl (by kernel_rfl) (by simp only [pickL, nthL, List.cons_append, List.nil_append]; rfl) ?_
    repeat (go_big_quiet_step (fail))
    refine wpQuiet_nil ?_
    refine wpS_nil ?_
    refine then_normal ?_
    refine wp_ret ?_
    refine bodyPost_ret (results_tmp rfl _ _ _) rfl ?_
    exact does_ret (Mem.only (M := [_]) HM112.out [2] rfl) rfl rfl

end Go.Proofs.Ytcdhipflfnafaaa
