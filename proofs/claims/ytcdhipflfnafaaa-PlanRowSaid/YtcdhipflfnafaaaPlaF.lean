/- Plans: PlanJoins. -/
import Derived.Test.YtcdhipflfnafaaaPlaD
namespace Go.Proofs.Ytcdhipflfnafaaa
open Go Go.RowKit Go.BigFrame

theorem next_ok {x : Pl} {n : Int} {t : List Int} {f : Pl} {e : Int} (h : nextP x n t = (f, e)) (he : e = 0) : mayP x = true ∧ nodeE n = true ∧ tgtL t = true ∧ x.1 ≠ 1000000 ∧ f = (x.1 + 1, n, t) := by
  rcases nextP_cases x n t with ⟨_, q⟩ | ⟨_, _, q⟩ | ⟨_, _, _, q⟩ | ⟨_, _, _, _, q⟩ | ⟨h1, h2, h3, h4, q⟩ <;> rw [h] at q <;> have q1 := (Prod.mk.inj q).1 <;> have q2 := (Prod.mk.inj q).2
  · omega
  · omega
  · omega
  · omega
  · exact ⟨h1, h2, h3, h4, q1⟩
set_option maxHeartbeats 4000000 in
set_option maxRecDepth 100000 in
theorem joins_d (W0 : World) (va : Value) (a1 a2 : Int) (sa : List Int) (ha : SrcE elemI W0 va sa) (vb : Value) (b1 b2 : Int) (sb : List Int) (hb : SrcE elemI W0 vb sb) (vc : Value) (c1 c2 : Int) (sc : List Int) (hc : SrcE elemI W0 vc sc) (n : Int) (vt : Value) (st : List Int) (ht : SrcE elemI W0 vt st) : Does Try.prog 4 #[.agg #[.int .i64 a1, .int .i64 a2, va], .agg #[.int .i64 b1, .int .i64 b2, vb], .agg #[.int .i64 c1, .int .i64 c2, vc], .int .i64 n, vt] [oldT W0] (.bool true) [oldT W0] := by
  intro w H hp
  have HM0 := Lib.hid (mem_refl hp)
  clear hp
  obtain ⟨pa, ca, rfl⟩ := row_form ha
  obtain ⟨pb, cb, rfl⟩ := row_form hb
  obtain ⟨pc, cc, rfl⟩ := row_form hc
  obtain ⟨pt, ct, rfl⟩ := row_form ht
  go_enter Try.func4, Try.ntmps4
  refine wp_seq ?_
  refine wp_region_N [(0, 3), (1, 3), (2, 3), (3, 1)] (by kernel_rfl) ?_
  refine wpS_boxA (i := 0) (dd := 5) rfl (by rfl) rfl rfl HM0.out covS_nil rfl ?_
  rintro b3 W2 hm1 -
  have HM4 := Lib.hid hm1
  clear hm1
  simp only [Act.put, List.setIfInBounds_toArray, List.set_cons_succ, List.set_cons_zero]
  refine wpS_boxA (i := 1) (dd := 6) rfl (by rfl) rfl rfl HM4.out covS_nil rfl ?_
  rintro b7 W6 hm5 -
  have HM8 := Lib.hid hm5
  clear hm5
  simp only [Act.put, List.setIfInBounds_toArray, List.set_cons_succ, List.set_cons_zero]
  refine wpS_boxA (i := 2) (dd := 7) rfl (by rfl) rfl rfl HM8.out covS_nil rfl ?_
  rintro b11 W10 hm9 -
  have HM12 := Lib.hid hm9
  clear hm9
  simp only [Act.put, List.setIfInBounds_toArray, List.set_cons_succ, List.set_cons_zero]
  refine wpS_this [3] rfl (by kernel_rfl) (by simp only [pickL, nthL, List.cons_append, List.nil_append]; rfl) ?_
  repeat (go_big_quiet_step (fail))
  refine wpQuiet_nil ?_
  refine wpS_nil ?_
  refine then_normal ?_
  refine wp_seq ?_
  refine wp_seq ?_
  rcases (show ¬ (sa.length ≤ 100 ∧ sb.length ≤ 100 ∧ sc.length ≤ 100) ∨ ((sa.length ≤ 100 ∧ sb.length ≤ 100 ∧ sc.length ≤ 100) ∧ ¬ st.length ≤ 100) ∨ ((sa.length ≤ 100 ∧ sb.length ≤ 100 ∧ sc.length ≤ 100) ∧ st.length ≤ 100) from by omega) with hw | ⟨hw, wt⟩ | ⟨hw, wt⟩
  · have hfw : Hid (fewB [⟨a1, a2, pa, sa.length, ca⟩, ⟨b1, b2, pb, sb.length, cb⟩, ⟨c1, c2, pc, sc.length, cc⟩] = false) := Lib.hid ((few3 _ _ _).trans (decide_eq_false hw))
    refine wp_region_N [(0, 1), (1, 1), (2, 1), (3, 3), (4, 3), (5, 1), (6, 1), (7, 1), (8, 1), (9, 1), (10, 1)] (by kernel_rfl) ?_
    have Cb5 := Mem.cell HM12.out 2 rfl
    have Cb6 := Mem.cell HM12.out 1 rfl
    have Cb7 := Mem.cell HM12.out 0 rfl
    refine wpS_this [0, 1, 2] rfl (by kernel_rfl) (by simp only [pickL, nthL, List.cons_append, List.nil_append]; rfl) ?_
    repeat (go_big_quiet_step (fail))
    refine wpQuiet_nil ?_
    clear Cb5 Cb6 Cb7
    refine wpS_buildN elemP (i := 3) (dd := 20) (n := 3) (xs := [⟨a1, a2, pa, sa.length, ca⟩, ⟨b1, b2, pb, sb.length, cb⟩, ⟨c1, c2, pc, sc.length, cc⟩]) (cs := #[.int .i64 a1, .int .i64 a2, .slice pa sa.length ca, .int .i64 b1, .int .i64 b2, .slice pb sb.length cb, .int .i64 c1, .int .i64 c2, .slice pc sc.length cc]) rfl (by rfl) (fun _ => by kernel_rfl) rfl rfl HM12.out covS_nil rfl ?_
    rintro b15 W16 hm17 -
    have HM18 := Lib.hid hm17
    clear hm17
    simp only [Act.put, List.setIfInBounds_toArray, List.set_cons_succ, List.set_cons_zero]
    refine wpS_does1 (i := 4) (d := some 21) (rem := [_, _, _, _]) (out := [_, _, _, _, _]) rfl (by rfl) rfl Try.call8 (few_d (rowT elemP _ _) _ _ rowOwnE (Nat.le_of_ble_eq_true rfl)) rfl HM18.out [0] rfl covS_nil rfl rfl ?_
    rintro W20 hm19 -
    rw [hfw.out]
    have HM21 := Lib.hid hm19
    clear hm19
    simp only [Act.put, List.setIfInBounds_toArray, List.set_cons_succ, List.set_cons_zero]
    refine wpS_this [5, 6, 7, 8, 9, 10] rfl (by kernel_rfl) (by simp only [pickL, nthL, List.cons_append, List.nil_append]; rfl) ?_
    repeat (go_big_quiet_step (fail))
    refine wpQuiet_nil ?_
    refine wpS_nil ?_
    refine then_normal ?_
    refine wp_cond_true rfl ?_
    refine wp_seq ?_
    refine wp_region_N [(0, 3), (1, 1)] (by kernel_rfl) ?_
    refine wpS_does0 (i := 0) (d := some 28) (rem := [_, _, _, _, _]) (out := [_, _, _, _, _]) rfl (by rfl) rfl Try.call9 (awake_d)  HM21.out [] rfl covS_nil rfl rfl ?_
    rintro W23 hm22 -
    have HM24 := Lib.hid hm22
    clear hm22
    simp only [Act.put, List.setIfInBounds_toArray, List.set_cons_succ, List.set_cons_zero]
    refine wpS_this [1] rfl (by kernel_rfl) (by simp only [pickL, nthL, List.cons_append, List.nil_append]; rfl) ?_
    repeat (go_big_quiet_step (fail))
    refine wpQuiet_nil ?_
    refine wpS_nil ?_
    refine then_normal ?_
    refine wp_ret ?_
    refine then_ret ?_
    refine bodyPost_ret (results_tmp rfl _ _ _) rfl ?_
    exact does_ret (Mem.only (M := [_]) HM24.out [4] rfl) rfl rfl
  · have hfw : Hid (fewB [⟨a1, a2, pa, sa.length, ca⟩, ⟨b1, b2, pb, sb.length, cb⟩, ⟨c1, c2, pc, sc.length, cc⟩] = true) := Lib.hid ((few3 _ _ _).trans (decide_eq_true hw))
    have gt : decide (100 < st.length) = true := decide_eq_true (by omega)
    have gt' : decide ((100 : Int) < (st.length : Int)) = true := decide_eq_true (by omega)
    refine wp_region_N [(0, 1), (1, 1), (2, 1), (3, 3), (4, 3), (5, 1), (6, 1), (7, 1), (8, 1), (9, 1), (10, 1)] (by kernel_rfl) ?_
    have Cb5 := Mem.cell HM12.out 2 rfl
    have Cb6 := Mem.cell HM12.out 1 rfl
    have Cb7 := Mem.cell HM12.out 0 rfl
    refine wpS_this [0, 1, 2] rfl (by kernel_rfl) (by simp only [pickL, nthL, List.cons_append, List.nil_append]; rfl) ?_
    repeat (go_big_quiet_step (fail))
    refine wpQuiet_nil ?_
    clear Cb5 Cb6 Cb7
    refine wpS_buildN elemP (i := 3) (dd := 20) (n := 3) (xs := [⟨a1, a2, pa, sa.length, ca⟩, ⟨b1, b2, pb, sb.length, cb⟩, ⟨c1, c2, pc, sc.length, cc⟩]) (cs := #[.int .i64 a1, .int .i64 a2, .slice pa sa.length ca, .int .i64 b1, .int .i64 b2, .slice pb sb.length cb, .int .i64 c1, .int .i64 c2, .slice pc sc.length cc]) rfl (by rfl) (fun _ => by kernel_rfl) rfl rfl HM12.out covS_nil rfl ?_
    rintro b27 W28 hm29 -
    have HM30 := Lib.hid hm29
    clear hm29
    simp only [Act.put, List.setIfInBounds_toArray, List.set_cons_succ, List.set_cons_zero]
    refine wpS_does1 (i := 4) (d := some 21) (rem := [_, _, _, _]) (out := [_, _, _, _, _]) rfl (by rfl) rfl Try.call8 (few_d (rowT elemP _ _) _ _ rowOwnE (Nat.le_of_ble_eq_true rfl)) rfl HM30.out [0] rfl covS_nil rfl rfl ?_
    rintro W32 hm31 -
    rw [hfw.out]
    have HM33 := Lib.hid hm31
    clear hm31
    simp only [Act.put, List.setIfInBounds_toArray, List.set_cons_succ, List.set_cons_zero]
    refine wpS_this [5, 6, 7, 8, 9, 10] rfl (by kernel_rfl) (by simp only [pickL, nthL, List.cons_append, List.nil_append]; rfl) ?_
    repeat (go_big_quiet_step (fail))
    refine wpQuiet_nil ?_
    refine wpS_nil ?_
    refine then_normal ?_
    refine wp_cond_true rfl ?_
    refine wp_seq ?_
    refine wp_region_N [(0, 3), (1, 1)] (by kernel_rfl) ?_
    refine wpS_does0 (i := 0) (d := some 28) (rem := [_, _, _, _, _]) (out := [_, _, _, _, _]) rfl (by rfl) rfl Try.call9 (awake_d)  HM33.out [] rfl covS_nil rfl rfl ?_
    rintro W35 hm34 -
    have HM36 := Lib.hid hm34
    clear hm34
    simp only [Act.put, List.setIfInBounds_toArray, List.set_cons_succ, List.set_cons_zero]
    refine wpS_this [1] rfl (by kernel_rfl) (by simp only [pickL, nthL, List.cons_append, List.nil_append]; rfl) ?_
    repeat (go_big_quiet_step (fail))
    refine wpQuiet_nil ?_
    refine wpS_nil ?_
    refine then_normal ?_
    refine wp_ret ?_
    refine then_ret ?_
    refine bodyPost_ret (results_tmp rfl _ _ _) rfl ?_
    exact does_ret (Mem.only (M := [_]) HM36.out [4] rfl) rfl rfl
  · have hfw : Hid (fewB [⟨a1, a2, pa, sa.length, ca⟩, ⟨b1, b2, pb, sb.length, cb⟩, ⟨c1, c2, pc, sc.length, cc⟩] = true) := Lib.hid ((few3 _ _ _).trans (decide_eq_true hw))
    have gt : decide (100 < st.length) = false := decide_eq_false (by omega)
    have gt' : decide ((100 : Int) < (st.length : Int)) = false := decide_eq_false (by omega)
    have la : sa.length ≤ 1000 := by omega
    have lb : sb.length ≤ 1000 := by omega
    have lc : sc.length ≤ 1000 := by omega
    have lt : st.length ≤ 1000 := by omega
    refine wp_region_N [(0, 1), (1, 1), (2, 1), (3, 3), (4, 3), (5, 1), (6, 1), (7, 1), (8, 1), (9, 1), (10, 1)] (by kernel_rfl) ?_
    have Cb5 := Mem.cell HM12.out 2 rfl
    have Cb6 := Mem.cell HM12.out 1 rfl
    have Cb7 := Mem.cell HM12.out 0 rfl
    refine wpS_this [0, 1, 2] rfl (by kernel_rfl) (by simp only [pickL, nthL, List.cons_append, List.nil_append]; rfl) ?_
    repeat (go_big_quiet_step (fail))
    refine wpQuiet_nil ?_
    clear Cb5 Cb6 Cb7
    refine wpS_buildN elemP (i := 3) (dd := 20) (n := 3) (xs := [⟨a1, a2, pa, sa.length, ca⟩, ⟨b1, b2, pb, sb.length, cb⟩, ⟨c1, c2, pc, sc.length, cc⟩]) (cs := #[.int .i64 a1, .int .i64 a2, .slice pa sa.length ca, .int .i64 b1, .int .i64 b2, .slice pb sb.length cb, .int .i64 c1, .int .i64 c2, .slice pc sc.length cc]) rfl (by rfl) (fun _ => by kernel_rfl) rfl rfl HM12.out covS_nil rfl ?_
    rintro b39 W40 hm41 -
    have HM42 := Lib.hid hm41
    clear hm41
    simp only [Act.put, List.setIfInBounds_toArray, List.set_cons_succ, List.set_cons_zero]
    refine wpS_does1 (i := 4) (d := some 21) (rem := [_, _, _, _]) (out := [_, _, _, _, _]) rfl (by rfl) rfl Try.call8 (few_d (rowT elemP _ _) _ _ rowOwnE (Nat.le_of_ble_eq_true rfl)) rfl HM42.out [0] rfl covS_nil rfl rfl ?_
    rintro W44 hm43 -
    rw [hfw.out]
    have HM45 := Lib.hid hm43
    clear hm43
    simp only [Act.put, List.setIfInBounds_toArray, List.set_cons_succ, List.set_cons_zero]
    refine wpS_this [5, 6, 7, 8, 9, 10] rfl (by kernel_rfl) (by simp only [pickL, nthL, List.cons_append, List.nil_append]; rfl) ?_
    repeat (go_big_quiet_step (fail))
    refine wpQuiet_nil ?_
    refine wpS_nil ?_
    refine then_normal ?_
    refine wp_cond_false rfl ?_
    refine wp_skip ?_
    refine then_normal ?_
    refine wp_seq ?_
    obtain ⟨x1, x2, sx, hx'⟩ := plan_letters (joinP (a1, a2, sa) (b1, b2, sb))
    have hx := Lib.hid hx'
    clear hx'
    obtain ⟨y1, y2, sy, hy'⟩ := plan_letters (joinP (x1, x2, sx) (c1, c2, sc))
    have hy := Lib.hid hy'
    clear hy'
    obtain ⟨z1, z2, sz, hz'⟩ := plan_letters (joinP (b1, b2, sb) (c1, c2, sc))
    have hz := Lib.hid hz'
    clear hz'
    have lx : sx.length ≤ 1000 := joinP_len hx.out la lb
    have ly : sy.length ≤ 1000 := joinP_len hy.out lx lc
    have lz : sz.length ≤ 1000 := joinP_len hz.out lb lc
    have hle := joinP_le (a1, a2, sa) (b1, b2, sb)
    rw [hx.out] at hle
    have hlp := hle.1
    have hlq := hle.2
    clear hle
    obtain ⟨p, hp'⟩ := int_letter (cmpP (a1, a2, sa) (x1, x2, sx))
    rw [hp'] at hlp
    obtain ⟨q, hq'⟩ := int_letter (cmpP (b1, b2, sb) (x1, x2, sx))
    rw [hq'] at hlq
    have hp := Lib.hid hp'
    clear hp'
    have hq := Lib.hid hq'
    clear hq'
    have gp1 : decide (0 < p) = false := decide_eq_false (by omega)
    have gq1 : decide (0 < q) = false := decide_eq_false (by omega)
    clear hlp hlq
    refine wp_region_N [(0, 1), (1, 1), (2, 3), (3, 3), (4, 3)] (by kernel_rfl) ?_
    have Cb5 := Mem.cell HM45.out 3 rfl
    have Cb6 := Mem.cell HM45.out 2 rfl
    refine wpS_this [0, 1] rfl (by kernel_rfl) (by simp only [pickL, nthL, List.cons_append, List.nil_append]; rfl) ?_
    repeat (go_big_quiet_step (fail))
    refine wpQuiet_nil ?_
    clear Cb5 Cb6
    refine wpS_doesU2 (i := 2) (d := some 31) (rem := [_, _, _, _]) rfl (by rfl) rfl Try.call17 (join_d (oldT W0) _ a1 a2 sa (srcOld ha) la _ b1 b2 sb (srcOld hb) lb x1 x2 sx hx.out) rfl rfl HM45.out [4] rfl covS_nil (fun _ => rfl) rfl ?_
    rintro u48 W47 hm46 -
    obtain ⟨px, cx, rfl, hm46q⟩ := Mem.plan rfl hm46
    clear hm46
    have HM49 := Lib.hid hm46q
    clear hm46q
    simp only [Act.put, List.setIfInBounds_toArray, List.set_cons_succ, List.set_cons_zero]
    refine wpS_alloc (i := 3) (dd := 11) (z := .agg #[.int .i64 0, .int .i64 0, .slice none 0 0]) (cs := #[.int .i64 0, .int .i64 0, .slice none 0 0]) rfl (by rfl) rfl (by kernel_rfl) rfl HM49.out covS_nil rfl ?_
    rintro b52 W51 hm50 -
    have HM53 := Lib.hid hm50
    clear hm50
    simp only [Act.put, List.setIfInBounds_toArray, List.set_cons_succ, List.set_cons_zero]
    refine wpS_storeA (i := 4) (L2 := [_, _, _, _, _, _]) (cs' := [_, _, _]) rfl (by rfl) rfl rfl rfl (by kernel_rfl) (by rfl) HM53.out 0 rfl rfl rfl rfl covS_nil rfl ?_
    rintro W55 hm54 -
    have HM56 := Lib.hid hm54
    clear hm54
    refine wpS_nil ?_
    refine then_normal ?_
    refine wp_seq ?_
    refine wp_seq ?_
    by_cases hxa : (((x1, x2, sx) : Pl) = (a1, a2, sa))
    · have gxa : decide (((x1, x2, sx) : Pl) = (a1, a2, sa)) = true := decide_eq_true hxa
      clear hxa
      refine wp_region_M (fun k => k ∈ ([b3, b7, b11, b52] : List Nat)) [(0, 2), (1, 1), (2, 1), (3, 3), (4, 3), (5, 1), (6, 1), (7, 1), (8, 1), (9, 3), (10, 1), (11, 1), (12, 1), (13, 1), (14, 3), (15, 1), (16, 1), (17, 1), (18, 1), (19, 1), (20, 1), (22, 2), (23, 2), (24, 2), (21, 3), (25, 3), (26, 3), (27, 3), (28, 1), (29, 1), (30, 1), (31, 1), (32, 1), (34, 2), (33, 3), (35, 3), (36, 1), (37, 1), (38, 1), (39, 1), (40, 1), (41, 3), (42, 1), (43, 1), (44, 1), (45, 1), (46, 1), (47, 3), (48, 1), (49, 1)] (by kernel_rfl) (by kernel_rfl) HM56.out ?_
      intro W57 hm58
      have HM59 := Lib.hid hm58
      clear hm58
      have Cb11 := Mem.cell HM59.out 0 rfl
      refine wpS_stay [0] rfl (by kernel_rfl) (by simp only [pickL, nthL, List.cons_append, List.nil_append]; rfl) ?_
      repeat (go_big_quiet_step (fail))
      refine wpQuiet_nil ?_
      clear Cb11
      have Cb6 := Mem.cell HM59.out 5 rfl
      have Cb5 := Mem.cell HM59.out 6 rfl
      refine wpS_this [1, 2] rfl (by kernel_rfl) (by simp only [pickL, nthL, List.cons_append, List.nil_append]; rfl) ?_
      repeat (go_big_quiet_step (fail))
      refine wpQuiet_nil ?_
      clear Cb6 Cb5
      refine wpS_doesU2 (i := 3) (d := some 35) (rem := [_, _, _, _, _, _]) rfl (by rfl) rfl Try.call17 (join_d (oldT W0) _ b1 b2 sb (srcOld hb) lb _ a1 a2 sa (srcOld ha) la x1 x2 sx ((joinP_comm _ _).trans hx.out)) rfl rfl HM59.out [2] rfl (covS_box 5 rfl (covS_box 4 rfl (covS_box 3 rfl (covS_box 0 rfl covS_nil)))) (fun _ => rfl) rfl ?_
      rintro u63 W61 hm60 hg62
      obtain ⟨pxb, cxb, rfl, hm60q⟩ := Mem.plan rfl hm60
      clear hm60
      have HM64 := Lib.hid hm60q
      clear hm60q
      simp only [Act.put, List.setIfInBounds_toArray, List.set_cons_succ, List.set_cons_zero]
      refine wpS_does2 (i := 4) (d := some 36) (rem := [_, _, _, _, _, _]) (out := [_, _, _, _, _, _, _, _]) rfl (by rfl) rfl Try.call16 (Does.ofList (same_d (listT [_, _]) _ x1 x2 sx (srcL 0 rfl rowT_reads) lx _ x1 x2 sx (srcL 1 rfl rowT_reads) lx)) rfl rfl HM64.out [3, 0] rfl (covS_box 5 rfl (covS_box 4 rfl (covS_box 3 rfl (covS_box 1 rfl covS_nil)))) rfl rfl ?_
      rintro W66 hm65 hg67
      rw [same_self]
      have HM68 := Lib.hid hm65
      clear hm65
      simp only [Act.put, List.setIfInBounds_toArray, List.set_cons_succ, List.set_cons_zero]
      have Cb11 := Mem.cell HM68.out 3 rfl
      have Cb5 := Mem.cell HM68.out 7 rfl
      refine wpS_this [5, 6, 7, 8] rfl (by kernel_rfl) (by simp only [pickL, nthL, List.cons_append, List.nil_append]; rfl) ?_
      repeat (go_big_quiet_step (fail))
      refine wpQuiet_nil ?_
      clear Cb11 Cb5
      refine wpS_does2 (i := 9) (d := some 41) (rem := [_, _, _, _, _, _]) (out := [_, _, _, _, _, _, _, _]) rfl (by rfl) rfl Try.call16 (Does.ofList (same_d (listT [_, _]) _ x1 x2 sx (srcL 0 rfl rowT_reads) lx _ a1 a2 sa (srcL 1 rfl (srcOld ha)) la)) rfl rfl HM68.out [0, 1] rfl (covS_box 5 rfl (covS_box 4 rfl (covS_box 3 rfl (covS_box 1 rfl covS_nil)))) rfl rfl ?_
      rintro W70 hm69 hg71
      rw [gxa]
      have HM72 := Lib.hid hm69
      clear hm69
      simp only [Act.put, List.setIfInBounds_toArray, List.set_cons_succ, List.set_cons_zero]
      have Cb11 := Mem.cell HM72.out 3 rfl
      have Cb6 := Mem.cell HM72.out 6 rfl
      refine wpS_this [10, 11, 12, 13] rfl (by kernel_rfl) (by simp only [pickL, nthL, List.cons_append, List.nil_append]; rfl) ?_
      repeat (go_big_quiet_step (fail))
      refine wpQuiet_nil ?_
      clear Cb11 Cb6
      refine wpS_skip (i := 14) (d := some 46) rfl (by rfl) rfl ?_
      simp only [Act.put, List.setIfInBounds_toArray, List.set_cons_succ, List.set_cons_zero]
      have Cb11 := Mem.cell HM72.out 3 rfl
      have Cb7 := Mem.cell HM72.out 5 rfl
      refine wpS_this [15, 16, 17, 18, 19, 20] rfl (by kernel_rfl) (by simp only [pickL, nthL, List.cons_append, List.nil_append]; rfl) ?_
      repeat (go_big_quiet_step (fail))
      refine wpQuiet_nil ?_
      clear Cb11 Cb7
      have Cb5 := Mem.cell HM72.out 7 rfl
      have Cb6 := Mem.cell HM72.out 6 rfl
      have Cb7 := Mem.cell HM72.out 5 rfl
      refine wpS_stay [22, 23, 24] rfl (by kernel_rfl) (by simp only [pickL, nthL, List.cons_append, List.nil_append]; rfl) ?_
      repeat (go_big_quiet_step (fail))
      refine wpQuiet_nil ?_
      clear Cb5 Cb6 Cb7
      refine wpS_doesU2 (i := 21) (d := some 53) (rem := [_, _, _, _, _, _]) rfl (by rfl) rfl Try.call17 (DoesU.ofList (join_d (listT [_, _]) _ x1 x2 sx (srcL 0 rfl rowT_reads) lx _ c1 c2 sc (srcL 1 rfl (srcOld hc)) lc y1 y2 sy hy.out)) rfl rfl HM72.out [0, 0] rfl (covS_box 5 rfl (covS_box 4 rfl (covS_box 3 rfl (covS_box 1 rfl covS_nil)))) (fun _ => rfl) rfl ?_
      rintro u76 W74 hm73 hg75
      obtain ⟨py, cy, rfl, hm73q⟩ := Mem.plan rfl hm73
      clear hm73
      have HM77 := Lib.hid hm73q
      clear hm73q
      simp only [Act.put, List.setIfInBounds_toArray, List.set_cons_succ, List.set_cons_zero]
      refine wpS_doesU2 (i := 25) (d := some 57) (rem := [_, _, _, _, _, _, _, _]) rfl (by rfl) rfl Try.call17 (join_d (oldT W0) _ b1 b2 sb (srcOld hb) lb _ c1 c2 sc (srcOld hc) lc z1 z2 sz hz.out) rfl rfl HM77.out [2] rfl (covS_box 7 rfl (covS_box 6 rfl (covS_box 5 rfl (covS_box 3 rfl covS_nil)))) (fun _ => rfl) rfl ?_
      rintro u81 W79 hm78 hg80
      obtain ⟨pz, cz, rfl, hm78q⟩ := Mem.plan rfl hm78
      clear hm78
      have HM82 := Lib.hid hm78q
      clear hm78q
      simp only [Act.put, List.setIfInBounds_toArray, List.set_cons_succ, List.set_cons_zero]
      refine wpS_doesU2 (i := 26) (d := some 58) (rem := [_, _, _, _, _, _, _, _]) rfl (by rfl) rfl Try.call17 (DoesU.ofList (join_d (listT [_, _]) _ a1 a2 sa (srcL 1 rfl (srcOld ha)) la _ z1 z2 sz (srcL 0 rfl rowT_reads) lz y1 y2 sy (by rw [← hz.out, ← joinP_assoc, hx.out, hy.out]))) rfl rfl HM82.out [0, 0] rfl (covS_box 7 rfl (covS_box 6 rfl (covS_box 5 rfl (covS_box 3 rfl covS_nil)))) (fun _ => rfl) rfl ?_
      rintro u86 W84 hm83 hg85
      obtain ⟨pyb, cyb, rfl, hm83q⟩ := Mem.plan rfl hm83
      clear hm83
      have HM87 := Lib.hid hm83q
      clear hm83q
      simp only [Act.put, List.setIfInBounds_toArray, List.set_cons_succ, List.set_cons_zero]
      refine wpS_does2 (i := 27) (d := some 59) (rem := [_, _, _, _, _, _, _, _, _]) (out := [_, _, _, _, _, _, _, _, _, _, _]) rfl (by rfl) rfl Try.call16 (Does.ofList (same_d (listT [_, _]) _ y1 y2 sy (srcL 0 rfl rowT_reads) ly _ y1 y2 sy (srcL 1 rfl rowT_reads) ly)) rfl rfl HM87.out [3, 0] rfl (covS_box 8 rfl (covS_box 7 rfl (covS_box 6 rfl (covS_box 4 rfl covS_nil)))) rfl rfl ?_
      rintro W89 hm88 hg90
      rw [same_self]
      have HM91 := Lib.hid hm88
      clear hm88
      simp only [Act.put, List.setIfInBounds_toArray, List.set_cons_succ, List.set_cons_zero]
      have Cb5 := Mem.cell HM91.out 10 rfl
      refine wpS_this [28, 29, 30, 31, 32] rfl (by kernel_rfl) (by simp only [pickL, nthL, List.cons_append, List.nil_append]; rfl) ?_
      repeat (go_big_quiet_step (fail))
      refine wpQuiet_nil ?_
      clear Cb5
      have Cb5 := Mem.cell HM91.out 10 rfl
      refine wpS_stay [34] rfl (by kernel_rfl) (by simp only [pickL, nthL, List.cons_append, List.nil_append]; rfl) ?_
      repeat (go_big_quiet_step (fail))
      refine wpQuiet_nil ?_
      clear Cb5
      refine wpS_doesU2 (i := 33) (d := some 65) (rem := [_, _, _, _, _, _, _, _, _, _]) rfl (by rfl) rfl Try.call17 (join_d (oldT W0) _ a1 a2 sa (srcOld ha) la _ a1 a2 sa (srcOld ha) la a1 a2 sa (joinP_self _)) rfl rfl HM91.out [3] rfl (covS_box 9 rfl (covS_box 8 rfl (covS_box 7 rfl (covS_box 5 rfl covS_nil)))) (fun _ => rfl) rfl ?_
      rintro u95 W93 hm92 hg94
      obtain ⟨paa, caa, rfl, hm92q⟩ := Mem.plan rfl hm92
      clear hm92
      have HM96 := Lib.hid hm92q
      clear hm92q
      simp only [Act.put, List.setIfInBounds_toArray, List.set_cons_succ, List.set_cons_zero]
      refine wpS_does2 (i := 35) (d := some 67) (rem := [_, _, _, _, _, _, _, _, _, _]) (out := [_, _, _, _, _, _, _, _, _, _, _, _]) rfl (by rfl) rfl Try.call16 (Does.ofList (same_d (listT [_, _]) _ a1 a2 sa (srcL 0 rfl rowT_reads) la _ a1 a2 sa (srcL 1 rfl (srcOld ha)) la)) rfl rfl HM96.out [0, 0] rfl (covS_box 9 rfl (covS_box 8 rfl (covS_box 7 rfl (covS_box 5 rfl covS_nil)))) rfl rfl ?_
      rintro W98 hm97 hg99
      rw [same_self]
      have HM100 := Lib.hid hm97
      clear hm97
      simp only [Act.put, List.setIfInBounds_toArray, List.set_cons_succ, List.set_cons_zero]
      have Cb5 := Mem.cell HM100.out 11 rfl
      have Cb11 := Mem.cell HM100.out 7 rfl
      refine wpS_this [36, 37, 38, 39, 40] rfl (by kernel_rfl) (by simp only [pickL, nthL, List.cons_append, List.nil_append]; rfl) ?_
      repeat (go_big_quiet_step (fail))
      refine wpQuiet_nil ?_
      clear Cb5 Cb11
      refine wpS_does2 (i := 41) (d := some 73) (rem := [_, _, _, _, _, _, _, _, _, _]) (out := [_, _, _, _, _, _, _, _, _, _, _, _]) rfl (by rfl) rfl Try.call14 (Does.ofList (compare_d (listT [_, _]) _ a1 a2 sa (srcL 1 rfl (srcOld ha)) la _ x1 x2 sx (srcL 0 rfl rowT_reads) lx)) rfl rfl HM100.out [5, 1] rfl (covS_box 9 rfl (covS_box 8 rfl (covS_box 7 rfl (covS_box 5 rfl covS_nil)))) rfl rfl ?_
      rintro W102 hm101 hg103
      rw [hp.out]
      have HM104 := Lib.hid hm101
      clear hm101
      simp only [Act.put, List.setIfInBounds_toArray, List.set_cons_succ, List.set_cons_zero]
      have Cb6 := Mem.cell HM104.out 10 rfl
      have Cb11 := Mem.cell HM104.out 7 rfl
      refine wpS_this [42, 43, 44, 45, 46] rfl (by kernel_rfl) (by simp only [pickL, nthL, List.cons_append, List.nil_append]; rfl) ?_
      repeat (go_big_quiet_step (fail))
      refine wpQuiet_nil ?_
      clear Cb6 Cb11
      refine wpS_does2 (i := 47) (d := some 79) (rem := [_, _, _, _, _, _, _, _, _, _]) (out := [_, _, _, _, _, _, _, _, _, _, _, _]) rfl (by rfl) rfl Try.call14 (Does.ofList (compare_d (listT [_, _]) _ b1 b2 sb (srcL 1 rfl (srcOld hb)) lb _ x1 x2 sx (srcL 0 rfl rowT_reads) lx)) rfl rfl HM104.out [0, 0] rfl (covS_box 9 rfl (covS_box 8 rfl (covS_box 7 rfl (covS_box 5 rfl covS_nil)))) rfl rfl ?_
      rintro W106 hm105 hg107
      rw [hq.out]
      have HM108 := Lib.hid hm105
      clear hm105
      simp only [Act.put, List.setIfInBounds_toArray, List.set_cons_succ, List.set_cons_zero]
      refine wpS_this [48, 49] rfl (by kernel_rfl) (by simp only [pickL, nthL, List.cons_append, List.nil_append]; rfl) ?_
      repeat (go_big_quiet_step (fail))
      refine wpQuiet_nil ?_
      refine wpS_nil ?_
      refine then_normal ?_
      refine wp_cond_false rfl ?_
      refine wp_skip ?_
      refine then_normal ?_
      refine wp_seq ?_
      obtain ⟨e1, hc1'⟩ := int_letter (cmpP (a1, a2, sa) (b1, b2, sb))
      obtain ⟨e2, hc2'⟩ := int_letter (cmpP (b1, b2, sb) (c1, c2, sc))
      obtain ⟨e3, hc3'⟩ := int_letter (cmpP (a1, a2, sa) (c1, c2, sc))
      obtain ⟨d, hd'⟩ := int_letter (cmpP (b1, b2, sb) (a1, a2, sa))
      have hcd : e1 = -d := by rw [← hc1', ← hd']; exact cmpP_cmp.neg _ _
      have hdb := cmpP_cmp.bnd (b1, b2, sb) (a1, a2, sa)
      rw [hd'] at hdb
      have hd0 := hdb.1
      have hd1 := hdb.2
      clear hdb
      have htr : Hid (e1 ≤ 0 → e2 ≤ 0 → e3 ≤ 0) := Lib.hid (by rw [← hc1', ← hc2', ← hc3']; exact cmpP_cmp.trans)
      have gab : Hid (decide (((a1, a2, sa) : Pl) = (b1, b2, sb)) = (e1 == 0)) := Lib.hid (by rw [← hc1', Bool.eq_iff_iff, decide_eq_true_iff, beq_iff_eq]; exact (cmpP_zero _ _).symm)
      have hc1 := Lib.hid hc1'
      clear hc1'
      have hc2 := Lib.hid hc2'
      clear hc2'
      have hc3 := Lib.hid hc3'
      clear hc3'
      have hd := Lib.hid hd'
      clear hd'
      have gcd : (e1 != -d) = false := by rw [hcd]; exact bne_self_eq_false _
      have gss : ((e1 == 0) != (e1 == 0)) = false := bne_self_eq_false _
      replace hcd := Lib.hid hcd
      refine wp_region_M (fun k => k ∈ ([b3, b7, b11, b52] : List Nat)) [(0, 1), (1, 1), (3, 2), (4, 2), (6, 2), (7, 2), (2, 3), (5, 3), (8, 3), (9, 1), (10, 1), (11, 1)] (by kernel_rfl) (by kernel_rfl) HM108.out ?_
      intro W109 hm110
      have HM111 := Lib.hid hm110
      clear hm110
      have Cb5 := Mem.cell HM111.out 11 rfl
      have Cb6 := Mem.cell HM111.out 10 rfl
      refine wpS_this [0, 1] rfl (by kernel_rfl) (by simp only [pickL, nthL, List.cons_append, List.nil_append]; rfl) ?_
      repeat (go_big_quiet_step (fail))
      refine wpQuiet_nil ?_
      clear Cb5 Cb6
      have Cb6 := Mem.cell HM111.out 10 rfl
      have Cb7 := Mem.cell HM111.out 9 rfl
      have Cb5 := Mem.cell HM111.out 11 rfl
      refine wpS_stay [3, 4, 6, 7] rfl (by kernel_rfl) (by simp only [pickL, nthL, List.cons_append, List.nil_append]; rfl) ?_
      repeat (go_big_quiet_step (fail))
      refine wpQuiet_nil ?_
      clear Cb6 Cb7 Cb5
      refine wpS_does2 (i := 2) (d := some 84) (rem := [_, _, _, _, _, _, _, _, _, _, _]) (out := [_, _, _, _, _, _, _, _, _, _, _, _]) rfl (by rfl) rfl Try.call14 (compare_d (oldT W0) _ a1 a2 sa (srcOld ha) la _ b1 b2 sb (srcOld hb) lb) rfl rfl HM111.out [1] rfl (covS_box 10 rfl (covS_box 9 rfl (covS_box 8 rfl (covS_box 6 rfl covS_nil)))) rfl rfl ?_
      rintro W113 hm112 hg114
      rw [hc1.out]
      have HM115 := Lib.hid hm112
      clear hm112
      simp only [Act.put, List.setIfInBounds_toArray, List.set_cons_succ, List.set_cons_zero]
      refine wpS_does2 (i := 5) (d := some 87) (rem := [_, _, _, _, _, _, _, _, _, _, _]) (out := [_, _, _, _, _, _, _, _, _, _, _, _]) rfl (by rfl) rfl Try.call14 (compare_d (oldT W0) _ b1 b2 sb (srcOld hb) lb _ c1 c2 sc (srcOld hc) lc) rfl rfl HM115.out [0] rfl (covS_box 10 rfl (covS_box 9 rfl (covS_box 8 rfl (covS_box 6 rfl covS_nil)))) rfl rfl ?_
      rintro W117 hm116 hg118
      rw [hc2.out]
      have HM119 := Lib.hid hm116
      clear hm116
      simp only [Act.put, List.setIfInBounds_toArray, List.set_cons_succ, List.set_cons_zero]
      refine wpS_does2 (i := 8) (d := some 90) (rem := [_, _, _, _, _, _, _, _, _, _, _]) (out := [_, _, _, _, _, _, _, _, _, _, _, _]) rfl (by rfl) rfl Try.call14 (compare_d (oldT W0) _ a1 a2 sa (srcOld ha) la _ c1 c2 sc (srcOld hc) lc) rfl rfl HM119.out [0] rfl (covS_box 10 rfl (covS_box 9 rfl (covS_box 8 rfl (covS_box 6 rfl covS_nil)))) rfl rfl ?_
      rintro W121 hm120 hg122
      rw [hc3.out]
      have HM123 := Lib.hid hm120
      clear hm120
      simp only [Act.put, List.setIfInBounds_toArray, List.set_cons_succ, List.set_cons_zero]
      refine wpS_this [9, 10, 11] rfl (by kernel_rfl) (by simp only [pickL, nthL, List.cons_append, List.nil_append]; rfl) ?_
      repeat (go_big_quiet_step (fail))
      refine wpQuiet_nil ?_
      refine wpS_nil ?_
      refine then_normal ?_
      refine wp_seq ?_
      refine wp_seq ?_
      rcases (show 0 < e1 ∨ (e1 ≤ 0 ∧ 0 < e2) ∨ (e1 ≤ 0 ∧ e2 ≤ 0) from by omega) with k1 | ⟨k1, k2⟩ | ⟨k1, k2⟩
      · have gp : decide (e1 ≤ 0) = false := decide_eq_false (by omega)
        clear k1
        refine wp_region_N [(0, 1), (1, 1), (2, 1), (3, 3), (4, 1), (5, 1), (6, 1), (7, 1), (8, 1), (9, 1), (10, 1), (11, 3), (12, 1), (13, 1), (14, 1), (15, 1), (16, 1), (17, 1), (18, 1), (19, 1), (20, 1), (21, 1), (22, 1), (23, 1), (24, 1), (25, 1)] (by kernel_rfl) ?_
        have Cb6 := Mem.cell HM123.out 10 rfl
        have Cb5 := Mem.cell HM123.out 11 rfl
        refine wpS_this [0, 1, 2] rfl (by kernel_rfl) (by simp only [pickL, nthL, List.cons_append, List.nil_append]; rfl) ?_
        repeat (go_big_quiet_step (fail))
        refine wpQuiet_nil ?_
        clear Cb6 Cb5
        refine wpS_does2 (i := 3) (d := some 94) (rem := [_, _, _, _, _, _, _, _, _, _, _]) (out := [_, _, _, _, _, _, _, _, _, _, _, _]) rfl (by rfl) rfl Try.call14 (compare_d (oldT W0) _ b1 b2 sb (srcOld hb) lb _ a1 a2 sa (srcOld ha) la) rfl rfl HM123.out [0] rfl covS_nil rfl rfl ?_
        rintro W125 hm124 -
        rw [hd.out]
        have HM126 := Lib.hid hm124
        clear hm124
        simp only [Act.put, List.setIfInBounds_toArray, List.set_cons_succ, List.set_cons_zero]
        have Cb5 := Mem.cell HM126.out 11 rfl
        have Cb6 := Mem.cell HM126.out 10 rfl
        refine wpS_this [4, 5, 6, 7, 8, 9, 10] rfl (by kernel_rfl) (by simp only [pickL, nthL, List.cons_append, List.nil_append]; rfl) ?_
        repeat (go_big_quiet_step (fail))
        refine wpQuiet_nil ?_
        clear Cb5 Cb6
        refine wpS_does2 (i := 11) (d := some 102) (rem := [_, _, _, _, _, _, _, _, _, _, _]) (out := [_, _, _, _, _, _, _, _, _, _, _, _]) rfl (by rfl) rfl Try.call16 (same_d (oldT W0) _ a1 a2 sa (srcOld ha) la _ b1 b2 sb (srcOld hb) lb) rfl rfl HM126.out [0] rfl covS_nil rfl rfl ?_
        rintro W128 hm127 -
        rw [gab.out]
        have HM129 := Lib.hid hm127
        clear hm127
        simp only [Act.put, List.setIfInBounds_toArray, List.set_cons_succ, List.set_cons_zero]
        refine wpS_this [12, 13, 14, 15, 16, 17, 18, 19, 20, 21, 22, 23, 24, 25] rfl (by kernel_rfl) (by simp only [pickL, nthL, List.cons_append, List.nil_append]; rfl) ?_
        repeat (go_big_quiet_step (fail))
        refine wpQuiet_nil ?_
        refine wpS_nil ?_
        refine then_normal ?_
        refine wp_cond_false rfl ?_
        refine wp_skip ?_
        refine then_normal ?_
        refine wp_seq ?_
        obtain ⟨f1, f2, sf, fe, hf'⟩ := next_letters (nextP (a1, a2, sa) n st)
        have hf := Lib.hid hf'
        clear hf'
        refine wp_region_N [(0, 1), (1, 1), (2, 1), (3, 3), (4, 1), (5, 1), (6, 1), (7, 3), (8, 3), (9, 1)] (by kernel_rfl) ?_
        have Cb5 := Mem.cell HM129.out 11 rfl
        refine wpS_this [0, 1, 2] rfl (by kernel_rfl) (by simp only [pickL, nthL, List.cons_append, List.nil_append]; rfl) ?_
        repeat (go_big_quiet_step (fail))
        refine wpQuiet_nil ?_
        clear Cb5
        refine wpS_doesU3 (i := 3) (d := some 121) (rem := [_, _, _, _, _, _, _, _, _, _, _]) rfl (by rfl) rfl Try.call10 (next_d (oldT W0) _ a1 a2 sa (srcOld ha) la n _ st (srcOld ht) lt f1 f2 sf fe hf.out) rfl rfl rfl HM129.out [0] rfl covS_nil (fun _ => rfl) rfl ?_
        rintro u132 W131 hm130 -
        obtain ⟨pf, cf, rfl, hm130q⟩ := Mem.next rfl hm130
        clear hm130
        have HM133 := Lib.hid hm130q
        clear hm130q
        simp only [Act.put, List.setIfInBounds_toArray, List.set_cons_succ, List.set_cons_zero]
        refine wpS_this [4, 5, 6] rfl (by kernel_rfl) (by simp only [pickL, nthL, List.cons_append, List.nil_append]; rfl) ?_
        repeat (go_big_quiet_step (fail))
        refine wpQuiet_nil ?_
        refine wpS_alloc (i := 7) (dd := 15) (z := .agg #[.int .i64 0, .int .i64 0, .slice none 0 0]) (cs := #[.int .i64 0, .int .i64 0, .slice none 0 0]) rfl (by rfl) rfl (by kernel_rfl) rfl HM133.out covS_nil rfl ?_
        rintro b136 W135 hm134 -
        have HM137 := Lib.hid hm134
        clear hm134
        simp only [Act.put, List.setIfInBounds_toArray, List.set_cons_succ, List.set_cons_zero]
        refine wpS_storeA (i := 8) (L2 := [_, _, _, _, _, _, _, _, _, _, _, _, _]) (cs' := [_, _, _]) rfl (by rfl) rfl rfl rfl (by kernel_rfl) (by rfl) HM137.out 0 rfl rfl rfl rfl covS_nil rfl ?_
        rintro W139 hm138 -
        have HM140 := Lib.hid hm138
        clear hm138
        refine wpS_this [9] rfl (by kernel_rfl) (by simp only [pickL, nthL, List.cons_append, List.nil_append]; rfl) ?_
        repeat (go_big_quiet_step (fail))
        refine wpQuiet_nil ?_
        refine wpS_nil ?_
        refine then_normal ?_
        refine wp_seq ?_
        by_cases hef : fe = 0
        · have hok := next_ok hf.out hef
          obtain ⟨ho1, ho2, ho3, ho4, ho5⟩ := hok
          simp only [Prod.mk.injEq] at ho5
          obtain ⟨r1, r2, r3⟩ := ho5
          subst f1
          subst f2
          subst sf
          subst fe
          have hbd := mayP_le ho1
          have hb0 : 0 ≤ a1 := hbd.1
          have hb1 : a1 < 1000000 := by have h1 : a1 ≤ 1000000 := hbd.2; have h2 : a1 ≠ 1000000 := ho4; omega
          clear hbd
          have hmd := Lib.hid (mayP_next ho1 ho2 ho3 ho4)
          have hjd : Hid (joinP (a1 + 1, n, st) (a1, a2, sa) = (a1 + 1, n, st)) := Lib.hid (joinC_left (by rw [cmpP_cmp.neg, cmpP_v (show a1 < a1 + 1 by omega)]; decide))
          clear ho1 ho2 ho3 ho4
          have gee : (a1 + 1 == a1 + 1) = true := beq_self_eq_true _
          try clear r1
          try clear hef
          refine wp_region_M (fun k => k ∈ ([b3, b7, b11, b52, b136] : List Nat)) [(0, 1), (1, 1), (2, 1), (3, 1), (4, 1), (5, 3), (6, 1), (7, 1), (8, 1), (9, 3), (10, 1), (11, 1), (12, 1), (13, 1), (14, 1), (15, 1), (16, 1), (17, 1), (18, 1), (19, 1), (20, 1), (21, 1), (23, 2), (22, 3), (24, 3), (25, 1), (26, 1), (27, 1), (28, 3), (29, 1), (30, 1)] (by kernel_rfl) (by kernel_rfl) HM140.out ?_
          intro W141 hm142
          have HM143 := Lib.hid hm142
          clear hm142
          have Cb15 := Mem.cell HM143.out 0 rfl
          have Cb5 := Mem.cell HM143.out 13 rfl
          refine wpS_this [0, 1, 2, 3, 4] rfl (by kernel_rfl) (by simp only [pickL, nthL, List.cons_append, List.nil_append]; rfl) ?_
          repeat (go_big_quiet_step (fail))
          refine wpQuiet_nil ?_
          clear Cb15 Cb5
          refine wpS_does2 (i := 5) (d := some 129) (rem := [_, _, _, _, _, _, _, _, _, _, _, _]) (out := [_, _, _, _, _, _, _, _, _, _, _, _, _, _]) rfl (by rfl) rfl Try.call14 (Does.ofList (compare_d (listT [_, _]) _ (a1 + 1) n st (srcL 0 rfl rowT_reads) lt _ a1 a2 sa (srcL 1 rfl (srcOld ha)) la)) rfl rfl HM143.out [1, 1] rfl (covS_box 11 rfl (covS_box 10 rfl (covS_box 9 rfl (covS_box 7 rfl (covS_box 0 rfl covS_nil))))) rfl rfl ?_
          rintro W145 hm144 hg146
          rw [cmpP_v (show a1 < a1 + 1 by omega)]
          have HM147 := Lib.hid hm144
          clear hm144
          simp only [Act.put, List.setIfInBounds_toArray, List.set_cons_succ, List.set_cons_zero]
          have Cb15 := Mem.cell HM147.out 2 rfl
          refine wpS_this [6, 7, 8] rfl (by kernel_rfl) (by simp only [pickL, nthL, List.cons_append, List.nil_append]; rfl) ?_
          repeat (go_big_quiet_step (fail))
          refine wpQuiet_nil ?_
          clear Cb15
          refine wpS_does1 (i := 9) (d := some 133) (rem := [_, _, _, _, _, _, _, _, _, _, _, _, _]) (out := [_, _, _, _, _, _, _, _, _, _, _, _, _, _]) rfl (by rfl) rfl Try.call12 (may_d (rowT elemI _ _) _ (a1 + 1) n st rowT_reads lt) rfl HM147.out [0] rfl (covS_box 12 rfl (covS_box 11 rfl (covS_box 10 rfl (covS_box 8 rfl (covS_box 1 rfl covS_nil))))) rfl rfl ?_
          rintro W149 hm148 hg150
          rw [hmd.out]
          have HM151 := Lib.hid hm148
          clear hm148
          simp only [Act.put, List.setIfInBounds_toArray, List.set_cons_succ, List.set_cons_zero]
          have Cb15 := Mem.cell HM151.out 2 rfl
          have Cb5 := Mem.cell HM151.out 13 rfl
          refine wpS_this [10, 11, 12, 13, 14, 15, 16, 17, 18, 19, 20, 21] rfl (by kernel_rfl) (by simp only [pickL, nthL, List.cons_append, List.nil_append]; rfl) ?_
          repeat (go_big_quiet_step (fail))
          refine wpQuiet_nil ?_
          clear Cb15 Cb5
          have Cb15 := Mem.cell HM151.out 2 rfl
          refine wpS_stay [23] rfl (by kernel_rfl) (by simp only [pickL, nthL, List.cons_append, List.nil_append]; rfl) ?_
          repeat (go_big_quiet_step (fail))
          refine wpQuiet_nil ?_
          clear Cb15
          refine wpS_doesU2 (i := 22) (d := some 146) (rem := [_, _, _, _, _, _, _, _, _, _, _, _]) rfl (by rfl) rfl Try.call17 (DoesU.ofList (join_d (listT [_, _]) _ (a1 + 1) n st (srcL 0 rfl rowT_reads) lt _ a1 a2 sa (srcL 1 rfl (srcOld ha)) la (a1 + 1) n st hjd.out)) rfl rfl HM151.out [0, 0] rfl (covS_box 11 rfl (covS_box 10 rfl (covS_box 9 rfl (covS_box 7 rfl (covS_box 0 rfl covS_nil))))) (fun _ => rfl) rfl ?_
          rintro u155 W153 hm152 hg154
          obtain ⟨pg, cg, rfl, hm152q⟩ := Mem.plan rfl hm152
          clear hm152
          have HM156 := Lib.hid hm152q
          clear hm152q
          simp only [Act.put, List.setIfInBounds_toArray, List.set_cons_succ, List.set_cons_zero]
          refine wpS_does2 (i := 24) (d := some 148) (rem := [_, _, _, _, _, _, _, _, _, _, _, _, _]) (out := [_, _, _, _, _, _, _, _, _, _, _, _, _, _, _]) rfl (by rfl) rfl Try.call16 (Does.ofList (same_d (listT [_, _]) _ (a1 + 1) n st (srcL 0 rfl rowT_reads) lt _ (a1 + 1) n st (srcL 1 rfl rowT_reads) lt)) rfl rfl HM156.out [0, 0] rfl (covS_box 12 rfl (covS_box 11 rfl (covS_box 10 rfl (covS_box 8 rfl (covS_box 1 rfl covS_nil))))) rfl rfl ?_
          rintro W158 hm157 hg159
          rw [same_self]
          have HM160 := Lib.hid hm157
          clear hm157
          simp only [Act.put, List.setIfInBounds_toArray, List.set_cons_succ, List.set_cons_zero]
          refine wpS_this [25, 26, 27] rfl (by kernel_rfl) (by simp only [pickL, nthL, List.cons_append, List.nil_append]; rfl) ?_
          repeat (go_big_quiet_step (fail))
          refine wpQuiet_nil ?_
          refine wpS_does0 (i := 28) (d := some 152) (rem := [_, _, _, _, _, _, _, _, _, _, _, _, _, _, _]) (out := [_, _, _, _, _, _, _, _, _, _, _, _, _, _, _]) rfl (by rfl) rfl Try.call9 (awake_d)  HM160.out [] rfl (covS_box 14 rfl (covS_box 13 rfl (covS_box 12 rfl (covS_box 10 rfl (covS_box 3 rfl covS_nil))))) rfl rfl ?_
          rintro W162 hm161 hg163
          have HM164 := Lib.hid hm161
          clear hm161
          simp only [Act.put, List.setIfInBounds_toArray, List.set_cons_succ, List.set_cons_zero]
          refine wpS_this [29, 30] rfl (by kernel_rfl) (by simp only [pickL, nthL, List.cons_append, List.nil_append]; rfl) ?_
          repeat (go_big_quiet_step (fail))
          refine wpQuiet_nil ?_
          refine wpS_nil ?_
          refine then_normal ?_
          refine wp_ret ?_
          refine bodyPost_ret (results_tmp rfl _ _ _) rfl ?_
          exact does_ret (Mem.only (M := [_]) HM164.out [2] rfl) rfl rfl
        · have gfe : (fe != 0) = true := bne_iff_ne.2 hef
          replace hef := Lib.hid hef
          refine wp_region_M (fun k => k ∈ ([b3, b7, b11, b52, b136] : List Nat)) [(0, 1), (1, 1), (2, 1), (3, 1), (4, 1), (5, 3), (6, 1), (7, 1), (8, 1), (9, 3), (10, 1), (11, 1), (12, 1), (13, 1), (14, 1), (15, 1), (16, 1), (17, 1), (18, 1), (19, 1), (20, 1), (21, 1), (23, 2), (22, 3), (24, 3), (25, 1), (26, 1), (27, 1), (28, 3), (29, 1), (30, 1)] (by kernel_rfl) (by kernel_rfl) HM140.out ?_
          intro W165 hm166
          have HM167 := Lib.hid hm166
          clear hm166
          have Cb15 := Mem.cell HM167.out 0 rfl
          have Cb5 := Mem.cell HM167.out 13 rfl
          refine wpS_this [0, 1, 2, 3, 4] rfl (by kernel_rfl) (by simp only [pickL, nthL, List.cons_append, List.nil_append]; rfl) ?_
          repeat (go_big_quiet_step (fail))
          refine wpQuiet_nil ?_
          clear Cb15 Cb5
          refine wpS_skip (i := 5) (d := some 129) rfl (by rfl) rfl ?_
          simp only [Act.put, List.setIfInBounds_toArray, List.set_cons_succ, List.set_cons_zero]
          have Cb15 := Mem.cell HM167.out 0 rfl
          refine wpS_this [6, 7, 8] rfl (by kernel_rfl) (by simp only [pickL, nthL, List.cons_append, List.nil_append]; rfl) ?_
          repeat (go_big_quiet_step (fail))
          refine wpQuiet_nil ?_
          clear Cb15
          refine wpS_skip (i := 9) (d := some 133) rfl (by rfl) rfl ?_
          simp only [Act.put, List.setIfInBounds_toArray, List.set_cons_succ, List.set_cons_zero]
          have Cb15 := Mem.cell HM167.out 0 rfl
          have Cb5 := Mem.cell HM167.out 13 rfl
          refine wpS_this [10, 11, 12, 13, 14, 15, 16, 17, 18, 19, 20, 21] rfl (by kernel_rfl) (by simp only [pickL, nthL, List.cons_append, List.nil_append]; rfl) ?_
          repeat (go_big_quiet_step (fail))
          refine wpQuiet_nil ?_
          clear Cb15 Cb5
          have Cb15 := Mem.cell HM167.out 0 rfl
          refine wpS_stay [23] rfl (by kernel_rfl) (by simp only [pickL, nthL, List.cons_append, List.nil_append]; rfl) ?_
          repeat (go_big_quiet_step (fail))
          refine wpQuiet_nil ?_
          clear Cb15
          refine wpS_skip (i := 22) (d := some 146) rfl (by rfl) rfl ?_
          simp only [Act.put, List.setIfInBounds_toArray, List.set_cons_succ, List.set_cons_zero]
          refine wpS_skip (i := 24) (d := some 148) rfl (by rfl) rfl ?_
          simp only [Act.put, List.setIfInBounds_toArray, List.set_cons_succ, List.set_cons_zero]
          refine wpS_this [25, 26, 27] rfl (by kernel_rfl) (by simp only [pickL, nthL, List.cons_append, List.nil_append]; rfl) ?_
          repeat (go_big_quiet_step (fail))
          refine wpQuiet_nil ?_
          refine wpS_does0 (i := 28) (d := some 152) (rem := [_, _, _, _, _, _, _, _, _, _, _, _, _, _]) (out := [_, _, _, _, _, _, _, _, _, _, _, _, _, _]) rfl (by rfl) rfl Try.call9 (awake_d)  HM167.out [] rfl (covS_box 13 rfl (covS_box 12 rfl (covS_box 11 rfl (covS_box 9 rfl (covS_box 0 rfl covS_nil))))) rfl rfl ?_
          rintro W169 hm168 hg170
          have HM171 := Lib.hid hm168
          clear hm168
          simp only [Act.put, List.setIfInBounds_toArray, List.set_cons_succ, List.set_cons_zero]
          refine wpS_this [29, 30] rfl (by kernel_rfl) (by simp only [pickL, nthL, List.cons_append, List.nil_append]; rfl) ?_
          repeat (go_big_quiet_step (fail))
          refine wpQuiet_nil ?_
          refine wpS_nil ?_
          refine then_normal ?_
          refine wp_ret ?_
          refine bodyPost_ret (results_tmp rfl _ _ _) rfl ?_
          exact does_ret (Mem.only (M := [_]) HM171.out [2] rfl) rfl rfl
      · have gp : decide (e1 ≤ 0) = true := decide_eq_true (by omega)
        have gq : decide (e2 ≤ 0) = false := decide_eq_false (by omega)
        clear k1 k2
        refine wp_region_N [(0, 1), (1, 1), (2, 1), (3, 3), (4, 1), (5, 1), (6, 1), (7, 1), (8, 1), (9, 1), (10, 1), (11, 3), (12, 1), (13, 1), (14, 1), (15, 1), (16, 1), (17, 1), (18, 1), (19, 1), (20, 1), (21, 1), (22, 1), (23, 1), (24, 1), (25, 1)] (by kernel_rfl) ?_
        have Cb6 := Mem.cell HM123.out 10 rfl
        have Cb5 := Mem.cell HM123.out 11 rfl
        refine wpS_this [0, 1, 2] rfl (by kernel_rfl) (by simp only [pickL, nthL, List.cons_append, List.nil_append]; rfl) ?_
        repeat (go_big_quiet_step (fail))
        refine wpQuiet_nil ?_
        clear Cb6 Cb5
        refine wpS_does2 (i := 3) (d := some 94) (rem := [_, _, _, _, _, _, _, _, _, _, _]) (out := [_, _, _, _, _, _, _, _, _, _, _, _]) rfl (by rfl) rfl Try.call14 (compare_d (oldT W0) _ b1 b2 sb (srcOld hb) lb _ a1 a2 sa (srcOld ha) la) rfl rfl HM123.out [0] rfl covS_nil rfl rfl ?_
        rintro W173 hm172 -
        rw [hd.out]
        have HM174 := Lib.hid hm172
        clear hm172
        simp only [Act.put, List.setIfInBounds_toArray, List.set_cons_succ, List.set_cons_zero]
        have Cb5 := Mem.cell HM174.out 11 rfl
        have Cb6 := Mem.cell HM174.out 10 rfl
        refine wpS_this [4, 5, 6, 7, 8, 9, 10] rfl (by kernel_rfl) (by simp only [pickL, nthL, List.cons_append, List.nil_append]; rfl) ?_
        repeat (go_big_quiet_step (fail))
        refine wpQuiet_nil ?_
        clear Cb5 Cb6
        refine wpS_does2 (i := 11) (d := some 102) (rem := [_, _, _, _, _, _, _, _, _, _, _]) (out := [_, _, _, _, _, _, _, _, _, _, _, _]) rfl (by rfl) rfl Try.call16 (same_d (oldT W0) _ a1 a2 sa (srcOld ha) la _ b1 b2 sb (srcOld hb) lb) rfl rfl HM174.out [0] rfl covS_nil rfl rfl ?_
        rintro W176 hm175 -
        rw [gab.out]
        have HM177 := Lib.hid hm175
        clear hm175
        simp only [Act.put, List.setIfInBounds_toArray, List.set_cons_succ, List.set_cons_zero]
        refine wpS_this [12, 13, 14, 15, 16, 17, 18, 19, 20, 21, 22, 23, 24, 25] rfl (by kernel_rfl) (by simp only [pickL, nthL, List.cons_append, List.nil_append]; rfl) ?_
        repeat (go_big_quiet_step (fail))
        refine wpQuiet_nil ?_
        refine wpS_nil ?_
        refine then_normal ?_
        refine wp_cond_false rfl ?_
        refine wp_skip ?_
        refine then_normal ?_
        refine wp_seq ?_
        obtain ⟨f1, f2, sf, fe, hf'⟩ := next_letters (nextP (a1, a2, sa) n st)
        have hf := Lib.hid hf'
        clear hf'
        refine wp_region_N [(0, 1), (1, 1), (2, 1), (3, 3), (4, 1), (5, 1), (6, 1), (7, 3), (8, 3), (9, 1)] (by kernel_rfl) ?_
        have Cb5 := Mem.cell HM177.out 11 rfl
        refine wpS_this [0, 1, 2] rfl (by kernel_rfl) (by simp only [pickL, nthL, List.cons_append, List.nil_append]; rfl) ?_
        repeat (go_big_quiet_step (fail))
        refine wpQuiet_nil ?_
        clear Cb5
        refine wpS_doesU3 (i := 3) (d := some 121) (rem := [_, _, _, _, _, _, _, _, _, _, _]) rfl (by rfl) rfl Try.call10 (next_d (oldT W0) _ a1 a2 sa (srcOld ha) la n _ st (srcOld ht) lt f1 f2 sf fe hf.out) rfl rfl rfl HM177.out [0] rfl covS_nil (fun _ => rfl) rfl ?_
        rintro u180 W179 hm178 -
        obtain ⟨pf, cf, rfl, hm178q⟩ := Mem.next rfl hm178
        clear hm178
        have HM181 := Lib.hid hm178q
        clear hm178q
        simp only [Act.put, List.setIfInBounds_toArray, List.set_cons_succ, List.set_cons_zero]
        refine wpS_this [4, 5, 6] rfl (by kernel_rfl) (by simp only [pickL, nthL, List.cons_append, List.nil_append]; rfl) ?_
        repeat (go_big_quiet_step (fail))
        refine wpQuiet_nil ?_
        refine wpS_alloc (i := 7) (dd := 15) (z := .agg #[.int .i64 0, .int .i64 0, .slice none 0 0]) (cs := #[.int .i64 0, .int .i64 0, .slice none 0 0]) rfl (by rfl) rfl (by kernel_rfl) rfl HM181.out covS_nil rfl ?_
        rintro b184 W183 hm182 -
        have HM185 := Lib.hid hm182
        clear hm182
        simp only [Act.put, List.setIfInBounds_toArray, List.set_cons_succ, List.set_cons_zero]
        refine wpS_storeA (i := 8) (L2 := [_, _, _, _, _, _, _, _, _, _, _, _, _]) (cs' := [_, _, _]) rfl (by rfl) rfl rfl rfl (by kernel_rfl) (by rfl) HM185.out 0 rfl rfl rfl rfl covS_nil rfl ?_
        rintro W187 hm186 -
        have HM188 := Lib.hid hm186
        clear hm186
        refine wpS_this [9] rfl (by kernel_rfl) (by simp only [pickL, nthL, List.cons_append, List.nil_append]; rfl) ?_
        repeat (go_big_quiet_step (fail))
        refine wpQuiet_nil ?_
        refine wpS_nil ?_
        refine then_normal ?_
        refine wp_seq ?_
        by_cases hef : fe = 0
        · have hok := next_ok hf.out hef
          obtain ⟨ho1, ho2, ho3, ho4, ho5⟩ := hok
          simp only [Prod.mk.injEq] at ho5
          obtain ⟨r1, r2, r3⟩ := ho5
          subst f1
          subst f2
          subst sf
          subst fe
          have hbd := mayP_le ho1
          have hb0 : 0 ≤ a1 := hbd.1
          have hb1 : a1 < 1000000 := by have h1 : a1 ≤ 1000000 := hbd.2; have h2 : a1 ≠ 1000000 := ho4; omega
          clear hbd
          have hmd := Lib.hid (mayP_next ho1 ho2 ho3 ho4)
          have hjd : Hid (joinP (a1 + 1, n, st) (a1, a2, sa) = (a1 + 1, n, st)) := Lib.hid (joinC_left (by rw [cmpP_cmp.neg, cmpP_v (show a1 < a1 + 1 by omega)]; decide))
          clear ho1 ho2 ho3 ho4
          have gee : (a1 + 1 == a1 + 1) = true := beq_self_eq_true _
          try clear r1
          try clear hef
          refine wp_region_M (fun k => k ∈ ([b3, b7, b11, b52, b184] : List Nat)) [(0, 1), (1, 1), (2, 1), (3, 1), (4, 1), (5, 3), (6, 1), (7, 1), (8, 1), (9, 3), (10, 1), (11, 1), (12, 1), (13, 1), (14, 1), (15, 1), (16, 1), (17, 1), (18, 1), (19, 1), (20, 1), (21, 1), (23, 2), (22, 3), (24, 3), (25, 1), (26, 1), (27, 1), (28, 3), (29, 1), (30, 1)] (by kernel_rfl) (by kernel_rfl) HM188.out ?_
          intro W189 hm190
          have HM191 := Lib.hid hm190
          clear hm190
          have Cb15 := Mem.cell HM191.out 0 rfl
          have Cb5 := Mem.cell HM191.out 13 rfl
          refine wpS_this [0, 1, 2, 3, 4] rfl (by kernel_rfl) (by simp only [pickL, nthL, List.cons_append, List.nil_append]; rfl) ?_
          repeat (go_big_quiet_step (fail))
          refine wpQuiet_nil ?_
          clear Cb15 Cb5
          refine wpS_does2 (i := 5) (d := some 129) (rem := [_, _, _, _, _, _, _, _, _, _, _, _]) (out := [_, _, _, _, _, _, _, _, _, _, _, _, _, _]) rfl (by rfl) rfl Try.call14 (Does.ofList (compare_d (listT [_, _]) _ (a1 + 1) n st (srcL 0 rfl rowT_reads) lt _ a1 a2 sa (srcL 1 rfl (srcOld ha)) la)) rfl rfl HM191.out [1, 1] rfl (covS_box 11 rfl (covS_box 10 rfl (covS_box 9 rfl (covS_box 7 rfl (covS_box 0 rfl covS_nil))))) rfl rfl ?_
          rintro W193 hm192 hg194
          rw [cmpP_v (show a1 < a1 + 1 by omega)]
          have HM195 := Lib.hid hm192
          clear hm192
          simp only [Act.put, List.setIfInBounds_toArray, List.set_cons_succ, List.set_cons_zero]
          have Cb15 := Mem.cell HM195.out 2 rfl
          refine wpS_this [6, 7, 8] rfl (by kernel_rfl) (by simp only [pickL, nthL, List.cons_append, List.nil_append]; rfl) ?_
          repeat (go_big_quiet_step (fail))
          refine wpQuiet_nil ?_
          clear Cb15
          refine wpS_does1 (i := 9) (d := some 133) (rem := [_, _, _, _, _, _, _, _, _, _, _, _, _]) (out := [_, _, _, _, _, _, _, _, _, _, _, _, _, _]) rfl (by rfl) rfl Try.call12 (may_d (rowT elemI _ _) _ (a1 + 1) n st rowT_reads lt) rfl HM195.out [0] rfl (covS_box 12 rfl (covS_box 11 rfl (covS_box 10 rfl (covS_box 8 rfl (covS_box 1 rfl covS_nil))))) rfl rfl ?_
          rintro W197 hm196 hg198
          rw [hmd.out]
          have HM199 := Lib.hid hm196
          clear hm196
          simp only [Act.put, List.setIfInBounds_toArray, List.set_cons_succ, List.set_cons_zero]
          have Cb15 := Mem.cell HM199.out 2 rfl
          have Cb5 := Mem.cell HM199.out 13 rfl
          refine wpS_this [10, 11, 12, 13, 14, 15, 16, 17, 18, 19, 20, 21] rfl (by kernel_rfl) (by simp only [pickL, nthL, List.cons_append, List.nil_append]; rfl) ?_
          repeat (go_big_quiet_step (fail))
          refine wpQuiet_nil ?_
          clear Cb15 Cb5
          have Cb15 := Mem.cell HM199.out 2 rfl
          refine wpS_stay [23] rfl (by kernel_rfl) (by simp only [pickL, nthL, List.cons_append, List.nil_append]; rfl) ?_
          repeat (go_big_quiet_step (fail))
          refine wpQuiet_nil ?_
          clear Cb15
          refine wpS_doesU2 (i := 22) (d := some 146) (rem := [_, _, _, _, _, _, _, _, _, _, _, _]) rfl (by rfl) rfl Try.call17 (DoesU.ofList (join_d (listT [_, _]) _ (a1 + 1) n st (srcL 0 rfl rowT_reads) lt _ a1 a2 sa (srcL 1 rfl (srcOld ha)) la (a1 + 1) n st hjd.out)) rfl rfl HM199.out [0, 0] rfl (covS_box 11 rfl (covS_box 10 rfl (covS_box 9 rfl (covS_box 7 rfl (covS_box 0 rfl covS_nil))))) (fun _ => rfl) rfl ?_
          rintro u203 W201 hm200 hg202
          obtain ⟨pg, cg, rfl, hm200q⟩ := Mem.plan rfl hm200
          clear hm200
          have HM204 := Lib.hid hm200q
          clear hm200q
          simp only [Act.put, List.setIfInBounds_toArray, List.set_cons_succ, List.set_cons_zero]
          refine wpS_does2 (i := 24) (d := some 148) (rem := [_, _, _, _, _, _, _, _, _, _, _, _, _]) (out := [_, _, _, _, _, _, _, _, _, _, _, _, _, _, _]) rfl (by rfl) rfl Try.call16 (Does.ofList (same_d (listT [_, _]) _ (a1 + 1) n st (srcL 0 rfl rowT_reads) lt _ (a1 + 1) n st (srcL 1 rfl rowT_reads) lt)) rfl rfl HM204.out [0, 0] rfl (covS_box 12 rfl (covS_box 11 rfl (covS_box 10 rfl (covS_box 8 rfl (covS_box 1 rfl covS_nil))))) rfl rfl ?_
          rintro W206 hm205 hg207
          rw [same_self]
          have HM208 := Lib.hid hm205
          clear hm205
          simp only [Act.put, List.setIfInBounds_toArray, List.set_cons_succ, List.set_cons_zero]
          refine wpS_this [25, 26, 27] rfl (by kernel_rfl) (by simp only [pickL, nthL, List.cons_append, List.nil_append]; rfl) ?_
          repeat (go_big_quiet_step (fail))
          refine wpQuiet_nil ?_
          refine wpS_does0 (i := 28) (d := some 152) (rem := [_, _, _, _, _, _, _, _, _, _, _, _, _, _, _]) (out := [_, _, _, _, _, _, _, _, _, _, _, _, _, _, _]) rfl (by rfl) rfl Try.call9 (awake_d)  HM208.out [] rfl (covS_box 14 rfl (covS_box 13 rfl (covS_box 12 rfl (covS_box 10 rfl (covS_box 3 rfl covS_nil))))) rfl rfl ?_
          rintro W210 hm209 hg211
          have HM212 := Lib.hid hm209
          clear hm209
          simp only [Act.put, List.setIfInBounds_toArray, List.set_cons_succ, List.set_cons_zero]
          refine wpS_this [29, 30] rfl (by kernel_rfl) (by simp only [pickL, nthL, List.cons_append, List.nil_append]; rfl) ?_
          repeat (go_big_quiet_step (fail))
          refine wpQuiet_nil ?_
          refine wpS_nil ?_
          refine then_normal ?_
          refine wp_ret ?_
          refine bodyPost_ret (results_tmp rfl _ _ _) rfl ?_
          exact does_ret (Mem.only (M := [_]) HM212.out [2] rfl) rfl rfl
        · have gfe : (fe != 0) = true := bne_iff_ne.2 hef
          replace hef := Lib.hid hef
          refine wp_region_M (fun k => k ∈ ([b3, b7, b11, b52, b184] : List Nat)) [(0, 1), (1, 1), (2, 1), (3, 1), (4, 1), (5, 3), (6, 1), (7, 1), (8, 1), (9, 3), (10, 1), (11, 1), (12, 1), (13, 1), (14, 1), (15, 1), (16, 1), (17, 1), (18, 1), (19, 1), (20, 1), (21, 1), (23, 2), (22, 3), (24, 3), (25, 1), (26, 1), (27, 1), (28, 3), (29, 1), (30, 1)] (by kernel_rfl) (by kernel_rfl) HM188.out ?_
          intro W213 hm214
          have HM215 := Lib.hid hm214
          clear hm214
          have Cb15 := Mem.cell HM215.out 0 rfl
          have Cb5 := Mem.cell HM215.out 13 rfl
          refine wpS_this [0, 1, 2, 3, 4] rfl (by kernel_rfl) (by simp only [pickL, nthL, List.cons_append, List.nil_append]; rfl) ?_
          repeat (go_big_quiet_step (fail))
          refine wpQuiet_nil ?_
          clear Cb15 Cb5
          refine wpS_skip (i := 5) (d := some 129) rfl (by rfl) rfl ?_
          simp only [Act.put, List.setIfInBounds_toArray, List.set_cons_succ, List.set_cons_zero]
          have Cb15 := Mem.cell HM215.out 0 rfl
          refine wpS_this [6, 7, 8] rfl (by kernel_rfl) (by simp only [pickL, nthL, List.cons_append, List.nil_append]; rfl) ?_
          repeat (go_big_quiet_step (fail))
          refine wpQuiet_nil ?_
          clear Cb15
          refine wpS_skip (i := 9) (d := some 133) rfl (by rfl) rfl ?_
          simp only [Act.put, List.setIfInBounds_toArray, List.set_cons_succ, List.set_cons_zero]
          have Cb15 := Mem.cell HM215.out 0 rfl
          have Cb5 := Mem.cell HM215.out 13 rfl
          refine wpS_this [10, 11, 12, 13, 14, 15, 16, 17, 18, 19, 20, 21] rfl (by kernel_rfl) (by simp only [pickL, nthL, List.cons_append, List.nil_append]; rfl) ?_
          repeat (go_big_quiet_step (fail))
          refine wpQuiet_nil ?_
          clear Cb15 Cb5
          have Cb15 := Mem.cell HM215.out 0 rfl
          refine wpS_stay [23] rfl (by kernel_rfl) (by simp only [pickL, nthL, List.cons_append, List.nil_append]; rfl) ?_
          repeat (go_big_quiet_step (fail))
          refine wpQuiet_nil ?_
          clear Cb15
          refine wpS_skip (i := 22) (d := some 146) rfl (by rfl) rfl ?_
          simp only [Act.put, List.setIfInBounds_toArray, List.set_cons_succ, List.set_cons_zero]
          refine wpS_skip (i := 24) (d := some 148) rfl (by rfl) rfl ?_
          simp only [Act.put, List.setIfInBounds_toArray, List.set_cons_succ, List.set_cons_zero]
          refine wpS_this [25, 26, 27] rfl (by kernel_rfl) (by simp only [pickL, nthL, List.cons_append, List.nil_append]; rfl) ?_
          repeat (go_big_quiet_step (fail))
          refine wpQuiet_nil ?_
          refine wpS_does0 (i := 28) (d := some 152) (rem := [_, _, _, _, _, _, _, _, _, _, _, _, _, _]) (out := [_, _, _, _, _, _, _, _, _, _, _, _, _, _]) rfl (by rfl) rfl Try.call9 (awake_d)  HM215.out [] rfl (covS_box 13 rfl (covS_box 12 rfl (covS_box 11 rfl (covS_box 9 rfl (covS_box 0 rfl covS_nil))))) rfl rfl ?_
          rintro W217 hm216 hg218
          have HM219 := Lib.hid hm216
          clear hm216
          simp only [Act.put, List.setIfInBounds_toArray, List.set_cons_succ, List.set_cons_zero]
          refine wpS_this [29, 30] rfl (by kernel_rfl) (by simp only [pickL, nthL, List.cons_append, List.nil_append]; rfl) ?_
          repeat (go_big_quiet_step (fail))
          refine wpQuiet_nil ?_
          refine wpS_nil ?_
          refine then_normal ?_
          refine wp_ret ?_
          refine bodyPost_ret (results_tmp rfl _ _ _) rfl ?_
          exact does_ret (Mem.only (M := [_]) HM219.out [2] rfl) rfl rfl
      · have gp : decide (e1 ≤ 0) = true := decide_eq_true (by omega)
        have gq : decide (e2 ≤ 0) = true := decide_eq_true (by omega)
        have k3 := htr.out k1 k2
        have gr : decide (0 < e3) = false := decide_eq_false (by omega)
        clear k1 k2 k3
        refine wp_region_N [(0, 1), (1, 1), (2, 1), (3, 3), (4, 1), (5, 1), (6, 1), (7, 1), (8, 1), (9, 1), (10, 1), (11, 3), (12, 1), (13, 1), (14, 1), (15, 1), (16, 1), (17, 1), (18, 1), (19, 1), (20, 1), (21, 1), (22, 1), (23, 1), (24, 1), (25, 1)] (by kernel_rfl) ?_
        have Cb6 := Mem.cell HM123.out 10 rfl
        have Cb5 := Mem.cell HM123.out 11 rfl
        refine wpS_this [0, 1, 2] rfl (by kernel_rfl) (by simp only [pickL, nthL, List.cons_append, List.nil_append]; rfl) ?_
        repeat (go_big_quiet_step (fail))
        refine wpQuiet_nil ?_
        clear Cb6 Cb5
        refine wpS_does2 (i := 3) (d := some 94) (rem := [_, _, _, _, _, _, _, _, _, _, _]) (out := [_, _, _, _, _, _, _, _, _, _, _, _]) rfl (by rfl) rfl Try.call14 (compare_d (oldT W0) _ b1 b2 sb (srcOld hb) lb _ a1 a2 sa (srcOld ha) la) rfl rfl HM123.out [0] rfl covS_nil rfl rfl ?_
        rintro W221 hm220 -
        rw [hd.out]
        have HM222 := Lib.hid hm220
        clear hm220
        simp only [Act.put, List.setIfInBounds_toArray, List.set_cons_succ, List.set_cons_zero]
        have Cb5 := Mem.cell HM222.out 11 rfl
        have Cb6 := Mem.cell HM222.out 10 rfl
        refine wpS_this [4, 5, 6, 7, 8, 9, 10] rfl (by kernel_rfl) (by simp only [pickL, nthL, List.cons_append, List.nil_append]; rfl) ?_
        repeat (go_big_quiet_step (fail))
        refine wpQuiet_nil ?_
        clear Cb5 Cb6
        refine wpS_does2 (i := 11) (d := some 102) (rem := [_, _, _, _, _, _, _, _, _, _, _]) (out := [_, _, _, _, _, _, _, _, _, _, _, _]) rfl (by rfl) rfl Try.call16 (same_d (oldT W0) _ a1 a2 sa (srcOld ha) la _ b1 b2 sb (srcOld hb) lb) rfl rfl HM222.out [0] rfl covS_nil rfl rfl ?_
        rintro W224 hm223 -
        rw [gab.out]
        have HM225 := Lib.hid hm223
        clear hm223
        simp only [Act.put, List.setIfInBounds_toArray, List.set_cons_succ, List.set_cons_zero]
        refine wpS_this [12, 13, 14, 15, 16, 17, 18, 19, 20, 21, 22, 23, 24, 25] rfl (by kernel_rfl) (by simp only [pickL, nthL, List.cons_append, List.nil_append]; rfl) ?_
        repeat (go_big_quiet_step (fail))
        refine wpQuiet_nil ?_
        refine wpS_nil ?_
        refine then_normal ?_
        refine wp_cond_false rfl ?_
        refine wp_skip ?_
        refine then_normal ?_
        refine wp_seq ?_
        obtain ⟨f1, f2, sf, fe, hf'⟩ := next_letters (nextP (a1, a2, sa) n st)
        have hf := Lib.hid hf'
        clear hf'
        refine wp_region_N [(0, 1), (1, 1), (2, 1), (3, 3), (4, 1), (5, 1), (6, 1), (7, 3), (8, 3), (9, 1)] (by kernel_rfl) ?_
        have Cb5 := Mem.cell HM225.out 11 rfl
        refine wpS_this [0, 1, 2] rfl (by kernel_rfl) (by simp only [pickL, nthL, List.cons_append, List.nil_append]; rfl) ?_
        repeat (go_big_quiet_step (fail))
        refine wpQuiet_nil ?_
        clear Cb5
        refine wpS_doesU3 (i := 3) (d := some 121) (rem := [_, _, _, _, _, _, _, _, _, _, _]) rfl (by rfl) rfl Try.call10 (next_d (oldT W0) _ a1 a2 sa (srcOld ha) la n _ st (srcOld ht) lt f1 f2 sf fe hf.out) rfl rfl rfl HM225.out [0] rfl covS_nil (fun _ => rfl) rfl ?_
        rintro u228 W227 hm226 -
        obtain ⟨pf, cf, rfl, hm226q⟩ := Mem.next rfl hm226
        clear hm226
        have HM229 := Lib.hid hm226q
        clear hm226q
        simp only [Act.put, List.setIfInBounds_toArray, List.set_cons_succ, List.set_cons_zero]
        refine wpS_this [4, 5, 6] rfl (by kernel_rfl) (by simp only [pickL, nthL, List.cons_append, List.nil_append]; rfl) ?_
        repeat (go_big_quiet_step (fail))
        refine wpQuiet_nil ?_
        refine wpS_alloc (i := 7) (dd := 15) (z := .agg #[.int .i64 0, .int .i64 0, .slice none 0 0]) (cs := #[.int .i64 0, .int .i64 0, .slice none 0 0]) rfl (by rfl) rfl (by kernel_rfl) rfl HM229.out covS_nil rfl ?_
        rintro b232 W231 hm230 -
        have HM233 := Lib.hid hm230
        clear hm230
        simp only [Act.put, List.setIfInBounds_toArray, List.set_cons_succ, List.set_cons_zero]
        refine wpS_storeA (i := 8) (L2 := [_, _, _, _, _, _, _, _, _, _, _, _, _]) (cs' := [_, _, _]) rfl (by rfl) rfl rfl rfl (by kernel_rfl) (by rfl) HM233.out 0 rfl rfl rfl rfl covS_nil rfl ?_
        rintro W235 hm234 -
        have HM236 := Lib.hid hm234
        clear hm234
        refine wpS_this [9] rfl (by kernel_rfl) (by simp only [pickL, nthL, List.cons_append, List.nil_append]; rfl) ?_
        repeat (go_big_quiet_step (fail))
        refine wpQuiet_nil ?_
        refine wpS_nil ?_
        refine then_normal ?_
        refine wp_seq ?_
        by_cases hef : fe = 0
        · have hok := next_ok hf.out hef
          obtain ⟨ho1, ho2, ho3, ho4, ho5⟩ := hok
          simp only [Prod.mk.injEq] at ho5
          obtain ⟨r1, r2, r3⟩ := ho5
          subst f1
          subst f2
          subst sf
          subst fe
          have hbd := mayP_le ho1
          have hb0 : 0 ≤ a1 := hbd.1
          have hb1 : a1 < 1000000 := by have h1 : a1 ≤ 1000000 := hbd.2; have h2 : a1 ≠ 1000000 := ho4; omega
          clear hbd
          have hmd := Lib.hid (mayP_next ho1 ho2 ho3 ho4)
          have hjd : Hid (joinP (a1 + 1, n, st) (a1, a2, sa) = (a1 + 1, n, st)) := Lib.hid (joinC_left (by rw [cmpP_cmp.neg, cmpP_v (show a1 < a1 + 1 by omega)]; decide))
          clear ho1 ho2 ho3 ho4
          have gee : (a1 + 1 == a1 + 1) = true := beq_self_eq_true _
          try clear r1
          try clear hef
          refine wp_region_M (fun k => k ∈ ([b3, b7, b11, b52, b232] : List Nat)) [(0, 1), (1, 1), (2, 1), (3, 1), (4, 1), (5, 3), (6, 1), (7, 1), (8, 1), (9, 3), (10, 1), (11, 1), (12, 1), (13, 1), (14, 1), (15, 1), (16, 1), (17, 1), (18, 1), (19, 1), (20, 1), (21, 1), (23, 2), (22, 3), (24, 3), (25, 1), (26, 1), (27, 1), (28, 3), (29, 1), (30, 1)] (by kernel_rfl) (by kernel_rfl) HM236.out ?_
          intro W237 hm238
          have HM239 := Lib.hid hm238
          clear hm238
          have Cb15 := Mem.cell HM239.out 0 rfl
          have Cb5 := Mem.cell HM239.out 13 rfl
          refine wpS_this [0, 1, 2, 3, 4] rfl (by kernel_rfl) (by simp only [pickL, nthL, List.cons_append, List.nil_append]; rfl) ?_
          repeat (go_big_quiet_step (fail))
          refine wpQuiet_nil ?_
          clear Cb15 Cb5
          refine wpS_does2 (i := 5) (d := some 129) (rem := [_, _, _, _, _, _, _, _, _, _, _, _]) (out := [_, _, _, _, _, _, _, _, _, _, _, _, _, _]) rfl (by rfl) rfl Try.call14 (Does.ofList (compare_d (listT [_, _]) _ (a1 + 1) n st (srcL 0 rfl rowT_reads) lt _ a1 a2 sa (srcL 1 rfl (srcOld ha)) la)) rfl rfl HM239.out [1, 1] rfl (covS_box 11 rfl (covS_box 10 rfl (covS_box 9 rfl (covS_box 7 rfl (covS_box 0 rfl covS_nil))))) rfl rfl ?_
          rintro W241 hm240 hg242
          rw [cmpP_v (show a1 < a1 + 1 by omega)]
          have HM243 := Lib.hid hm240
          clear hm240
          simp only [Act.put, List.setIfInBounds_toArray, List.set_cons_succ, List.set_cons_zero]
          have Cb15 := Mem.cell HM243.out 2 rfl
          refine wpS_this [6, 7, 8] rfl (by kernel_rfl) (by simp only [pickL, nthL, List.cons_append, List.nil_append]; rfl) ?_
          repeat (go_big_quiet_step (fail))
          refine wpQuiet_nil ?_
          clear Cb15
          refine wpS_does1 (i := 9) (d := some 133) (rem := [_, _, _, _, _, _, _, _, _, _, _, _, _]) (out := [_, _, _, _, _, _, _, _, _, _, _, _, _, _]) rfl (by rfl) rfl Try.call12 (may_d (rowT elemI _ _) _ (a1 + 1) n st rowT_reads lt) rfl HM243.out [0] rfl (covS_box 12 rfl (covS_box 11 rfl (covS_box 10 rfl (covS_box 8 rfl (covS_box 1 rfl covS_nil))))) rfl rfl ?_
          rintro W245 hm244 hg246
          rw [hmd.out]
          have HM247 := Lib.hid hm244
          clear hm244
          simp only [Act.put, List.setIfInBounds_toArray, List.set_cons_succ, List.set_cons_zero]
          have Cb15 := Mem.cell HM247.out 2 rfl
          have Cb5 := Mem.cell HM247.out 13 rfl
          refine wpS_this [10, 11, 12, 13, 14, 15, 16, 17, 18, 19, 20, 21] rfl (by kernel_rfl) (by simp only [pickL, nthL, List.cons_append, List.nil_append]; rfl) ?_
          repeat (go_big_quiet_step (fail))
          refine wpQuiet_nil ?_
          clear Cb15 Cb5
          have Cb15 := Mem.cell HM247.out 2 rfl
          refine wpS_stay [23] rfl (by kernel_rfl) (by simp only [pickL, nthL, List.cons_append, List.nil_append]; rfl) ?_
          repeat (go_big_quiet_step (fail))
          refine wpQuiet_nil ?_
          clear Cb15
          refine wpS_doesU2 (i := 22) (d := some 146) (rem := [_, _, _, _, _, _, _, _, _, _, _, _]) rfl (by rfl) rfl Try.call17 (DoesU.ofList (join_d (listT [_, _]) _ (a1 + 1) n st (srcL 0 rfl rowT_reads) lt _ a1 a2 sa (srcL 1 rfl (srcOld ha)) la (a1 + 1) n st hjd.out)) rfl rfl HM247.out [0, 0] rfl (covS_box 11 rfl (covS_box 10 rfl (covS_box 9 rfl (covS_box 7 rfl (covS_box 0 rfl covS_nil))))) (fun _ => rfl) rfl ?_
          rintro u251 W249 hm248 hg250
          obtain ⟨pg, cg, rfl, hm248q⟩ := Mem.plan rfl hm248
          clear hm248
          have HM252 := Lib.hid hm248q
          clear hm248q
          simp only [Act.put, List.setIfInBounds_toArray, List.set_cons_succ, List.set_cons_zero]
          refine wpS_does2 (i := 24) (d := some 148) (rem := [_, _, _, _, _, _, _, _, _, _, _, _, _]) (out := [_, _, _, _, _, _, _, _, _, _, _, _, _, _, _]) rfl (by rfl) rfl Try.call16 (Does.ofList (same_d (listT [_, _]) _ (a1 + 1) n st (srcL 0 rfl rowT_reads) lt _ (a1 + 1) n st (srcL 1 rfl rowT_reads) lt)) rfl rfl HM252.out [0, 0] rfl (covS_box 12 rfl (covS_box 11 rfl (covS_box 10 rfl (covS_box 8 rfl (covS_box 1 rfl covS_nil))))) rfl rfl ?_
          rintro W254 hm253 hg255
          rw [same_self]
          have HM256 := Lib.hid hm253
          clear hm253
          simp only [Act.put, List.setIfInBounds_toArray, List.set_cons_succ, List.set_cons_zero]
          refine wpS_this [25, 26, 27] rfl (by kernel_rfl) (by simp only [pickL, nthL, List.cons_append, List.nil_append]; rfl) ?_
          repeat (go_big_quiet_step (fail))
          refine wpQuiet_nil ?_
          refine wpS_does0 (i := 28) (d := some 152) (rem := [_, _, _, _, _, _, _, _, _, _, _, _, _, _, _]) (out := [_, _, _, _, _, _, _, _, _, _, _, _, _, _, _]) rfl (by rfl) rfl Try.call9 (awake_d)  HM256.out [] rfl (covS_box 14 rfl (covS_box 13 rfl (covS_box 12 rfl (covS_box 10 rfl (covS_box 3 rfl covS_nil))))) rfl rfl ?_
          rintro W258 hm257 hg259
          have HM260 := Lib.hid hm257
          clear hm257
          simp only [Act.put, List.setIfInBounds_toArray, List.set_cons_succ, List.set_cons_zero]
          refine wpS_this [29, 30] rfl (by kernel_rfl) (by simp only [pickL, nthL, List.cons_append, List.nil_append]; rfl) ?_
          repeat (go_big_quiet_step (fail))
          refine wpQuiet_nil ?_
          refine wpS_nil ?_
          refine then_normal ?_
          refine wp_ret ?_
          refine bodyPost_ret (results_tmp rfl _ _ _) rfl ?_
          exact does_ret (Mem.only (M := [_]) HM260.out [2] rfl) rfl rfl
        · have gfe : (fe != 0) = true := bne_iff_ne.2 hef
          replace hef := Lib.hid hef
          refine wp_region_M (fun k => k ∈ ([b3, b7, b11, b52, b232] : List Nat)) [(0, 1), (1, 1), (2, 1), (3, 1), (4, 1), (5, 3), (6, 1), (7, 1), (8, 1), (9, 3), (10, 1), (11, 1), (12, 1), (13, 1), (14, 1), (15, 1), (16, 1), (17, 1), (18, 1), (19, 1), (20, 1), (21, 1), (23, 2), (22, 3), (24, 3), (25, 1), (26, 1), (27, 1), (28, 3), (29, 1), (30, 1)] (by kernel_rfl) (by kernel_rfl) HM236.out ?_
          intro W261 hm262
          have HM263 := Lib.hid hm262
          clear hm262
          have Cb15 := Mem.cell HM263.out 0 rfl
          have Cb5 := Mem.cell HM263.out 13 rfl
          refine wpS_this [0, 1, 2, 3, 4] rfl (by kernel_rfl) (by simp only [pickL, nthL, List.cons_append, List.nil_append]; rfl) ?_
          repeat (go_big_quiet_step (fail))
          refine wpQuiet_nil ?_
          clear Cb15 Cb5
          refine wpS_skip (i := 5) (d := some 129) rfl (by rfl) rfl ?_
          simp only [Act.put, List.setIfInBounds_toArray, List.set_cons_succ, List.set_cons_zero]
          have Cb15 := Mem.cell HM263.out 0 rfl
          refine wpS_this [6, 7, 8] rfl (by kernel_rfl) (by simp only [pickL, nthL, List.cons_append, List.nil_append]; rfl) ?_
          repeat (go_big_quiet_step (fail))
          refine wpQuiet_nil ?_
          clear Cb15
          refine wpS_skip (i := 9) (d := some 133) rfl (by rfl) rfl ?_
          simp only [Act.put, List.setIfInBounds_toArray, List.set_cons_succ, List.set_cons_zero]
          have Cb15 := Mem.cell HM263.out 0 rfl
          have Cb5 := Mem.cell HM263.out 13 rfl
          refine wpS_this [10, 11, 12, 13, 14, 15, 16, 17, 18, 19, 20, 21] rfl (by kernel_rfl) (by simp only [pickL, nthL, List.cons_append, List.nil_append]; rfl) ?_
          repeat (go_big_quiet_step (fail))
          refine wpQuiet_nil ?_
          clear Cb15 Cb5
          have Cb15 := Mem.cell HM263.out 0 rfl
          refine wpS_stay [23] rfl (by kernel_rfl) (by simp only [pickL, nthL, List.cons_append, List.nil_append]; rfl) ?_
          repeat (go_big_quiet_step (fail))
          refine wpQuiet_nil ?_
          clear Cb15
          refine wpS_skip (i := 22) (d := some 146) rfl (by rfl) rfl ?_
          simp only [Act.put, List.setIfInBounds_toArray, List.set_cons_succ, List.set_cons_zero]
          refine wpS_skip (i := 24) (d := some 148) rfl (by rfl) rfl ?_
          simp only [Act.put, List.setIfInBounds_toArray, List.set_cons_succ, List.set_cons_zero]
          refine wpS_this [25, 26, 27] rfl (by kernel_rfl) (by simp only [pickL, nthL, List.cons_append, List.nil_append]; rfl) ?_
          repeat (go_big_quiet_step (fail))
          refine wpQuiet_nil ?_
          refine wpS_does0 (i := 28) (d := some 152) (rem := [_, _, _, _, _, _, _, _, _, _, _, _, _, _]) (out := [_, _, _, _, _, _, _, _, _, _, _, _, _, _]) rfl (by rfl) rfl Try.call9 (awake_d)  HM263.out [] rfl (covS_box 13 rfl (covS_box 12 rfl (covS_box 11 rfl (covS_box 9 rfl (covS_box 0 rfl covS_nil))))) rfl rfl ?_
          rintro W265 hm264 hg266
          have HM267 := Lib.hid hm264
          clear hm264
          simp only [Act.put, List.setIfInBounds_toArray, List.set_cons_succ, List.set_cons_zero]
          refine wpS_this [29, 30] rfl (by kernel_rfl) (by simp only [pickL, nthL, List.cons_append, List.nil_append]; rfl) ?_
          repeat (go_big_quiet_step (fail))
          refine wpQuiet_nil ?_
          refine wpS_nil ?_
          refine then_normal ?_
          refine wp_ret ?_
          refine bodyPost_ret (results_tmp rfl _ _ _) rfl ?_
          exact does_ret (Mem.only (M := [_]) HM267.out [2] rfl) rfl rfl
    · have gxa : decide (((x1, x2, sx) : Pl) = (a1, a2, sa)) = false := decide_eq_false hxa
      have gxb : decide (((x1, x2, sx) : Pl) = (b1, b2, sb)) = true := decide_eq_true (hx.out.symm.trans ((joinP_or (a1, a2, sa) (b1, b2, sb)).resolve_left fun h => hxa (hx.out.symm.trans h)))
      clear hxa
      refine wp_region_M (fun k => k ∈ ([b3, b7, b11, b52] : List Nat)) [(0, 2), (1, 1), (2, 1), (3, 3), (4, 3), (5, 1), (6, 1), (7, 1), (8, 1), (9, 3), (10, 1), (11, 1), (12, 1), (13, 1), (14, 3), (15, 1), (16, 1), (17, 1), (18, 1), (19, 1), (20, 1), (22, 2), (23, 2), (24, 2), (21, 3), (25, 3), (26, 3), (27, 3), (28, 1), (29, 1), (30, 1), (31, 1), (32, 1), (34, 2), (33, 3), (35, 3), (36, 1), (37, 1), (38, 1), (39, 1), (40, 1), (41, 3), (42, 1), (43, 1), (44, 1), (45, 1), (46, 1), (47, 3), (48, 1), (49, 1)] (by kernel_rfl) (by kernel_rfl) HM56.out ?_
      intro W268 hm269
      have HM270 := Lib.hid hm269
      clear hm269
      have Cb11 := Mem.cell HM270.out 0 rfl
      refine wpS_stay [0] rfl (by kernel_rfl) (by simp only [pickL, nthL, List.cons_append, List.nil_append]; rfl) ?_
      repeat (go_big_quiet_step (fail))
      refine wpQuiet_nil ?_
      clear Cb11
      have Cb6 := Mem.cell HM270.out 5 rfl
      have Cb5 := Mem.cell HM270.out 6 rfl
      refine wpS_this [1, 2] rfl (by kernel_rfl) (by simp only [pickL, nthL, List.cons_append, List.nil_append]; rfl) ?_
      repeat (go_big_quiet_step (fail))
      refine wpQuiet_nil ?_
      clear Cb6 Cb5
      refine wpS_doesU2 (i := 3) (d := some 35) (rem := [_, _, _, _, _, _]) rfl (by rfl) rfl Try.call17 (join_d (oldT W0) _ b1 b2 sb (srcOld hb) lb _ a1 a2 sa (srcOld ha) la x1 x2 sx ((joinP_comm _ _).trans hx.out)) rfl rfl HM270.out [2] rfl (covS_box 5 rfl (covS_box 4 rfl (covS_box 3 rfl (covS_box 0 rfl covS_nil)))) (fun _ => rfl) rfl ?_
      rintro u274 W272 hm271 hg273
      obtain ⟨pxb, cxb, rfl, hm271q⟩ := Mem.plan rfl hm271
      clear hm271
      have HM275 := Lib.hid hm271q
      clear hm271q
      simp only [Act.put, List.setIfInBounds_toArray, List.set_cons_succ, List.set_cons_zero]
      refine wpS_does2 (i := 4) (d := some 36) (rem := [_, _, _, _, _, _]) (out := [_, _, _, _, _, _, _, _]) rfl (by rfl) rfl Try.call16 (Does.ofList (same_d (listT [_, _]) _ x1 x2 sx (srcL 0 rfl rowT_reads) lx _ x1 x2 sx (srcL 1 rfl rowT_reads) lx)) rfl rfl HM275.out [3, 0] rfl (covS_box 5 rfl (covS_box 4 rfl (covS_box 3 rfl (covS_box 1 rfl covS_nil)))) rfl rfl ?_
      rintro W277 hm276 hg278
      rw [same_self]
      have HM279 := Lib.hid hm276
      clear hm276
      simp only [Act.put, List.setIfInBounds_toArray, List.set_cons_succ, List.set_cons_zero]
      have Cb11 := Mem.cell HM279.out 3 rfl
      have Cb5 := Mem.cell HM279.out 7 rfl
      refine wpS_this [5, 6, 7, 8] rfl (by kernel_rfl) (by simp only [pickL, nthL, List.cons_append, List.nil_append]; rfl) ?_
      repeat (go_big_quiet_step (fail))
      refine wpQuiet_nil ?_
      clear Cb11 Cb5
      refine wpS_does2 (i := 9) (d := some 41) (rem := [_, _, _, _, _, _]) (out := [_, _, _, _, _, _, _, _]) rfl (by rfl) rfl Try.call16 (Does.ofList (same_d (listT [_, _]) _ x1 x2 sx (srcL 0 rfl rowT_reads) lx _ a1 a2 sa (srcL 1 rfl (srcOld ha)) la)) rfl rfl HM279.out [0, 1] rfl (covS_box 5 rfl (covS_box 4 rfl (covS_box 3 rfl (covS_box 1 rfl covS_nil)))) rfl rfl ?_
      rintro W281 hm280 hg282
      rw [gxa]
      have HM283 := Lib.hid hm280
      clear hm280
      simp only [Act.put, List.setIfInBounds_toArray, List.set_cons_succ, List.set_cons_zero]
      have Cb11 := Mem.cell HM283.out 3 rfl
      have Cb6 := Mem.cell HM283.out 6 rfl
      refine wpS_this [10, 11, 12, 13] rfl (by kernel_rfl) (by simp only [pickL, nthL, List.cons_append, List.nil_append]; rfl) ?_
      repeat (go_big_quiet_step (fail))
      refine wpQuiet_nil ?_
      clear Cb11 Cb6
      refine wpS_does2 (i := 14) (d := some 46) (rem := [_, _, _, _, _, _]) (out := [_, _, _, _, _, _, _, _]) rfl (by rfl) rfl Try.call16 (Does.ofList (same_d (listT [_, _]) _ x1 x2 sx (srcL 0 rfl rowT_reads) lx _ b1 b2 sb (srcL 1 rfl (srcOld hb)) lb)) rfl rfl HM283.out [0, 0] rfl (covS_box 5 rfl (covS_box 4 rfl (covS_box 3 rfl (covS_box 1 rfl covS_nil)))) rfl rfl ?_
      rintro W285 hm284 hg286
      rw [gxb]
      have HM287 := Lib.hid hm284
      clear hm284
      simp only [Act.put, List.setIfInBounds_toArray, List.set_cons_succ, List.set_cons_zero]
      have Cb11 := Mem.cell HM287.out 3 rfl
      have Cb7 := Mem.cell HM287.out 5 rfl
      refine wpS_this [15, 16, 17, 18, 19, 20] rfl (by kernel_rfl) (by simp only [pickL, nthL, List.cons_append, List.nil_append]; rfl) ?_
      repeat (go_big_quiet_step (fail))
      refine wpQuiet_nil ?_
      clear Cb11 Cb7
      have Cb5 := Mem.cell HM287.out 7 rfl
      have Cb6 := Mem.cell HM287.out 6 rfl
      have Cb7 := Mem.cell HM287.out 5 rfl
      refine wpS_stay [22, 23, 24] rfl (by kernel_rfl) (by simp only [pickL, nthL, List.cons_append, List.nil_append]; rfl) ?_
      repeat (go_big_quiet_step (fail))
      refine wpQuiet_nil ?_
      clear Cb5 Cb6 Cb7
      refine wpS_doesU2 (i := 21) (d := some 53) (rem := [_, _, _, _, _, _]) rfl (by rfl) rfl Try.call17 (DoesU.ofList (join_d (listT [_, _]) _ x1 x2 sx (srcL 0 rfl rowT_reads) lx _ c1 c2 sc (srcL 1 rfl (srcOld hc)) lc y1 y2 sy hy.out)) rfl rfl HM287.out [0, 0] rfl (covS_box 5 rfl (covS_box 4 rfl (covS_box 3 rfl (covS_box 1 rfl covS_nil)))) (fun _ => rfl) rfl ?_
      rintro u291 W289 hm288 hg290
      obtain ⟨py, cy, rfl, hm288q⟩ := Mem.plan rfl hm288
      clear hm288
      have HM292 := Lib.hid hm288q
      clear hm288q
      simp only [Act.put, List.setIfInBounds_toArray, List.set_cons_succ, List.set_cons_zero]
      refine wpS_doesU2 (i := 25) (d := some 57) (rem := [_, _, _, _, _, _, _, _]) rfl (by rfl) rfl Try.call17 (join_d (oldT W0) _ b1 b2 sb (srcOld hb) lb _ c1 c2 sc (srcOld hc) lc z1 z2 sz hz.out) rfl rfl HM292.out [2] rfl (covS_box 7 rfl (covS_box 6 rfl (covS_box 5 rfl (covS_box 3 rfl covS_nil)))) (fun _ => rfl) rfl ?_
      rintro u296 W294 hm293 hg295
      obtain ⟨pz, cz, rfl, hm293q⟩ := Mem.plan rfl hm293
      clear hm293
      have HM297 := Lib.hid hm293q
      clear hm293q
      simp only [Act.put, List.setIfInBounds_toArray, List.set_cons_succ, List.set_cons_zero]
      refine wpS_doesU2 (i := 26) (d := some 58) (rem := [_, _, _, _, _, _, _, _]) rfl (by rfl) rfl Try.call17 (DoesU.ofList (join_d (listT [_, _]) _ a1 a2 sa (srcL 1 rfl (srcOld ha)) la _ z1 z2 sz (srcL 0 rfl rowT_reads) lz y1 y2 sy (by rw [← hz.out, ← joinP_assoc, hx.out, hy.out]))) rfl rfl HM297.out [0, 0] rfl (covS_box 7 rfl (covS_box 6 rfl (covS_box 5 rfl (covS_box 3 rfl covS_nil)))) (fun _ => rfl) rfl ?_
      rintro u301 W299 hm298 hg300
      obtain ⟨pyb, cyb, rfl, hm298q⟩ := Mem.plan rfl hm298
      clear hm298
      have HM302 := Lib.hid hm298q
      clear hm298q
      simp only [Act.put, List.setIfInBounds_toArray, List.set_cons_succ, List.set_cons_zero]
      refine wpS_does2 (i := 27) (d := some 59) (rem := [_, _, _, _, _, _, _, _, _]) (out := [_, _, _, _, _, _, _, _, _, _, _]) rfl (by rfl) rfl Try.call16 (Does.ofList (same_d (listT [_, _]) _ y1 y2 sy (srcL 0 rfl rowT_reads) ly _ y1 y2 sy (srcL 1 rfl rowT_reads) ly)) rfl rfl HM302.out [3, 0] rfl (covS_box 8 rfl (covS_box 7 rfl (covS_box 6 rfl (covS_box 4 rfl covS_nil)))) rfl rfl ?_
      rintro W304 hm303 hg305
      rw [same_self]
      have HM306 := Lib.hid hm303
      clear hm303
      simp only [Act.put, List.setIfInBounds_toArray, List.set_cons_succ, List.set_cons_zero]
      have Cb5 := Mem.cell HM306.out 10 rfl
      refine wpS_this [28, 29, 30, 31, 32] rfl (by kernel_rfl) (by simp only [pickL, nthL, List.cons_append, List.nil_append]; rfl) ?_
      repeat (go_big_quiet_step (fail))
      refine wpQuiet_nil ?_
      clear Cb5
      have Cb5 := Mem.cell HM306.out 10 rfl
      refine wpS_stay [34] rfl (by kernel_rfl) (by simp only [pickL, nthL, List.cons_append, List.nil_append]; rfl) ?_
      repeat (go_big_quiet_step (fail))
      refine wpQuiet_nil ?_
      clear Cb5
      refine wpS_doesU2 (i := 33) (d := some 65) (rem := [_, _, _, _, _, _, _, _, _, _]) rfl (by rfl) rfl Try.call17 (join_d (oldT W0) _ a1 a2 sa (srcOld ha) la _ a1 a2 sa (srcOld ha) la a1 a2 sa (joinP_self _)) rfl rfl HM306.out [3] rfl (covS_box 9 rfl (covS_box 8 rfl (covS_box 7 rfl (covS_box 5 rfl covS_nil)))) (fun _ => rfl) rfl ?_
      rintro u310 W308 hm307 hg309
      obtain ⟨paa, caa, rfl, hm307q⟩ := Mem.plan rfl hm307
      clear hm307
      have HM311 := Lib.hid hm307q
      clear hm307q
      simp only [Act.put, List.setIfInBounds_toArray, List.set_cons_succ, List.set_cons_zero]
      refine wpS_does2 (i := 35) (d := some 67) (rem := [_, _, _, _, _, _, _, _, _, _]) (out := [_, _, _, _, _, _, _, _, _, _, _, _]) rfl (by rfl) rfl Try.call16 (Does.ofList (same_d (listT [_, _]) _ a1 a2 sa (srcL 0 rfl rowT_reads) la _ a1 a2 sa (srcL 1 rfl (srcOld ha)) la)) rfl rfl HM311.out [0, 0] rfl (covS_box 9 rfl (covS_box 8 rfl (covS_box 7 rfl (covS_box 5 rfl covS_nil)))) rfl rfl ?_
      rintro W313 hm312 hg314
      rw [same_self]
      have HM315 := Lib.hid hm312
      clear hm312
      simp only [Act.put, List.setIfInBounds_toArray, List.set_cons_succ, List.set_cons_zero]
      have Cb5 := Mem.cell HM315.out 11 rfl
      have Cb11 := Mem.cell HM315.out 7 rfl
      refine wpS_this [36, 37, 38, 39, 40] rfl (by kernel_rfl) (by simp only [pickL, nthL, List.cons_append, List.nil_append]; rfl) ?_
      repeat (go_big_quiet_step (fail))
      refine wpQuiet_nil ?_
      clear Cb5 Cb11
      refine wpS_does2 (i := 41) (d := some 73) (rem := [_, _, _, _, _, _, _, _, _, _]) (out := [_, _, _, _, _, _, _, _, _, _, _, _]) rfl (by rfl) rfl Try.call14 (Does.ofList (compare_d (listT [_, _]) _ a1 a2 sa (srcL 1 rfl (srcOld ha)) la _ x1 x2 sx (srcL 0 rfl rowT_reads) lx)) rfl rfl HM315.out [5, 1] rfl (covS_box 9 rfl (covS_box 8 rfl (covS_box 7 rfl (covS_box 5 rfl covS_nil)))) rfl rfl ?_
      rintro W317 hm316 hg318
      rw [hp.out]
      have HM319 := Lib.hid hm316
      clear hm316
      simp only [Act.put, List.setIfInBounds_toArray, List.set_cons_succ, List.set_cons_zero]
      have Cb6 := Mem.cell HM319.out 10 rfl
      have Cb11 := Mem.cell HM319.out 7 rfl
      refine wpS_this [42, 43, 44, 45, 46] rfl (by kernel_rfl) (by simp only [pickL, nthL, List.cons_append, List.nil_append]; rfl) ?_
      repeat (go_big_quiet_step (fail))
      refine wpQuiet_nil ?_
      clear Cb6 Cb11
      refine wpS_does2 (i := 47) (d := some 79) (rem := [_, _, _, _, _, _, _, _, _, _]) (out := [_, _, _, _, _, _, _, _, _, _, _, _]) rfl (by rfl) rfl Try.call14 (Does.ofList (compare_d (listT [_, _]) _ b1 b2 sb (srcL 1 rfl (srcOld hb)) lb _ x1 x2 sx (srcL 0 rfl rowT_reads) lx)) rfl rfl HM319.out [0, 0] rfl (covS_box 9 rfl (covS_box 8 rfl (covS_box 7 rfl (covS_box 5 rfl covS_nil)))) rfl rfl ?_
      rintro W321 hm320 hg322
      rw [hq.out]
      have HM323 := Lib.hid hm320
      clear hm320
      simp only [Act.put, List.setIfInBounds_toArray, List.set_cons_succ, List.set_cons_zero]
      refine wpS_this [48, 49] rfl (by kernel_rfl) (by simp only [pickL, nthL, List.cons_append, List.nil_append]; rfl) ?_
      repeat (go_big_quiet_step (fail))
      refine wpQuiet_nil ?_
      refine wpS_nil ?_
      refine then_normal ?_
      refine wp_cond_false rfl ?_
      refine wp_skip ?_
      refine then_normal ?_
      refine wp_seq ?_
      obtain ⟨e1, hc1'⟩ := int_letter (cmpP (a1, a2, sa) (b1, b2, sb))
      obtain ⟨e2, hc2'⟩ := int_letter (cmpP (b1, b2, sb) (c1, c2, sc))
      obtain ⟨e3, hc3'⟩ := int_letter (cmpP (a1, a2, sa) (c1, c2, sc))
      obtain ⟨d, hd'⟩ := int_letter (cmpP (b1, b2, sb) (a1, a2, sa))
      have hcd : e1 = -d := by rw [← hc1', ← hd']; exact cmpP_cmp.neg _ _
      have hdb := cmpP_cmp.bnd (b1, b2, sb) (a1, a2, sa)
      rw [hd'] at hdb
      have hd0 := hdb.1
      have hd1 := hdb.2
      clear hdb
      have htr : Hid (e1 ≤ 0 → e2 ≤ 0 → e3 ≤ 0) := Lib.hid (by rw [← hc1', ← hc2', ← hc3']; exact cmpP_cmp.trans)
      have gab : Hid (decide (((a1, a2, sa) : Pl) = (b1, b2, sb)) = (e1 == 0)) := Lib.hid (by rw [← hc1', Bool.eq_iff_iff, decide_eq_true_iff, beq_iff_eq]; exact (cmpP_zero _ _).symm)
      have hc1 := Lib.hid hc1'
      clear hc1'
      have hc2 := Lib.hid hc2'
      clear hc2'
      have hc3 := Lib.hid hc3'
      clear hc3'
      have hd := Lib.hid hd'
      clear hd'
      have gcd : (e1 != -d) = false := by rw [hcd]; exact bne_self_eq_false _
      have gss : ((e1 == 0) != (e1 == 0)) = false := bne_self_eq_false _
      replace hcd := Lib.hid hcd
      refine wp_region_M (fun k => k ∈ ([b3, b7, b11, b52] : List Nat)) [(0, 1), (1, 1), (3, 2), (4, 2), (6, 2), (7, 2), (2, 3), (5, 3), (8, 3), (9, 1), (10, 1), (11, 1)] (by kernel_rfl) (by kernel_rfl) HM323.out ?_
      intro W324 hm325
      have HM326 := Lib.hid hm325
      clear hm325
      have Cb5 := Mem.cell HM326.out 11 rfl
      have Cb6 := Mem.cell HM326.out 10 rfl
      refine wpS_this [0, 1] rfl (by kernel_rfl) (by simp only [pickL, nthL, List.cons_append, List.nil_append]; rfl) ?_
      repeat (go_big_quiet_step (fail))
      refine wpQuiet_nil ?_
      clear Cb5 Cb6
      have Cb6 := Mem.cell HM326.out 10 rfl
      have Cb7 := Mem.cell HM326.out 9 rfl
      have Cb5 := Mem.cell HM326.out 11 rfl
      refine wpS_stay [3, 4, 6, 7] rfl (by kernel_rfl) (by simp only [pickL, nthL, List.cons_append, List.nil_append]; rfl) ?_
      repeat (go_big_quiet_step (fail))
      refine wpQuiet_nil ?_
      clear Cb6 Cb7 Cb5
      refine wpS_does2 (i := 2) (d := some 84) (rem := [_, _, _, _, _, _, _, _, _, _, _]) (out := [_, _, _, _, _, _, _, _, _, _, _, _]) rfl (by rfl) rfl Try.call14 (compare_d (oldT W0) _ a1 a2 sa (srcOld ha) la _ b1 b2 sb (srcOld hb) lb) rfl rfl HM326.out [1] rfl (covS_box 10 rfl (covS_box 9 rfl (covS_box 8 rfl (covS_box 6 rfl covS_nil)))) rfl rfl ?_
      rintro W328 hm327 hg329
      rw [hc1.out]
      have HM330 := Lib.hid hm327
      clear hm327
      simp only [Act.put, List.setIfInBounds_toArray, List.set_cons_succ, List.set_cons_zero]
      refine wpS_does2 (i := 5) (d := some 87) (rem := [_, _, _, _, _, _, _, _, _, _, _]) (out := [_, _, _, _, _, _, _, _, _, _, _, _]) rfl (by rfl) rfl Try.call14 (compare_d (oldT W0) _ b1 b2 sb (srcOld hb) lb _ c1 c2 sc (srcOld hc) lc) rfl rfl HM330.out [0] rfl (covS_box 10 rfl (covS_box 9 rfl (covS_box 8 rfl (covS_box 6 rfl covS_nil)))) rfl rfl ?_
      rintro W332 hm331 hg333
      rw [hc2.out]
      have HM334 := Lib.hid hm331
      clear hm331
      simp only [Act.put, List.setIfInBounds_toArray, List.set_cons_succ, List.set_cons_zero]
      refine wpS_does2 (i := 8) (d := some 90) (rem := [_, _, _, _, _, _, _, _, _, _, _]) (out := [_, _, _, _, _, _, _, _, _, _, _, _]) rfl (by rfl) rfl Try.call14 (compare_d (oldT W0) _ a1 a2 sa (srcOld ha) la _ c1 c2 sc (srcOld hc) lc) rfl rfl HM334.out [0] rfl (covS_box 10 rfl (covS_box 9 rfl (covS_box 8 rfl (covS_box 6 rfl covS_nil)))) rfl rfl ?_
      rintro W336 hm335 hg337
      rw [hc3.out]
      have HM338 := Lib.hid hm335
      clear hm335
      simp only [Act.put, List.setIfInBounds_toArray, List.set_cons_succ, List.set_cons_zero]
      refine wpS_this [9, 10, 11] rfl (by kernel_rfl) (by simp only [pickL, nthL, List.cons_append, List.nil_append]; rfl) ?_
      repeat (go_big_quiet_step (fail))
      refine wpQuiet_nil ?_
      refine wpS_nil ?_
      refine then_normal ?_
      refine wp_seq ?_
      refine wp_seq ?_
      rcases (show 0 < e1 ∨ (e1 ≤ 0 ∧ 0 < e2) ∨ (e1 ≤ 0 ∧ e2 ≤ 0) from by omega) with k1 | ⟨k1, k2⟩ | ⟨k1, k2⟩
      · have gp : decide (e1 ≤ 0) = false := decide_eq_false (by omega)
        clear k1
        refine wp_region_N [(0, 1), (1, 1), (2, 1), (3, 3), (4, 1), (5, 1), (6, 1), (7, 1), (8, 1), (9, 1), (10, 1), (11, 3), (12, 1), (13, 1), (14, 1), (15, 1), (16, 1), (17, 1), (18, 1), (19, 1), (20, 1), (21, 1), (22, 1), (23, 1), (24, 1), (25, 1)] (by kernel_rfl) ?_
        have Cb6 := Mem.cell HM338.out 10 rfl
        have Cb5 := Mem.cell HM338.out 11 rfl
        refine wpS_this [0, 1, 2] rfl (by kernel_rfl) (by simp only [pickL, nthL, List.cons_append, List.nil_append]; rfl) ?_
        repeat (go_big_quiet_step (fail))
        refine wpQuiet_nil ?_
        clear Cb6 Cb5
        refine wpS_does2 (i := 3) (d := some 94) (rem := [_, _, _, _, _, _, _, _, _, _, _]) (out := [_, _, _, _, _, _, _, _, _, _, _, _]) rfl (by rfl) rfl Try.call14 (compare_d (oldT W0) _ b1 b2 sb (srcOld hb) lb _ a1 a2 sa (srcOld ha) la) rfl rfl HM338.out [0] rfl covS_nil rfl rfl ?_
        rintro W340 hm339 -
        rw [hd.out]
        have HM341 := Lib.hid hm339
        clear hm339
        simp only [Act.put, List.setIfInBounds_toArray, List.set_cons_succ, List.set_cons_zero]
        have Cb5 := Mem.cell HM341.out 11 rfl
        have Cb6 := Mem.cell HM341.out 10 rfl
        refine wpS_this [4, 5, 6, 7, 8, 9, 10] rfl (by kernel_rfl) (by simp only [pickL, nthL, List.cons_append, List.nil_append]; rfl) ?_
        repeat (go_big_quiet_step (fail))
        refine wpQuiet_nil ?_
        clear Cb5 Cb6
        refine wpS_does2 (i := 11) (d := some 102) (rem := [_, _, _, _, _, _, _, _, _, _, _]) (out := [_, _, _, _, _, _, _, _, _, _, _, _]) rfl (by rfl) rfl Try.call16 (same_d (oldT W0) _ a1 a2 sa (srcOld ha) la _ b1 b2 sb (srcOld hb) lb) rfl rfl HM341.out [0] rfl covS_nil rfl rfl ?_
        rintro W343 hm342 -
        rw [gab.out]
        have HM344 := Lib.hid hm342
        clear hm342
        simp only [Act.put, List.setIfInBounds_toArray, List.set_cons_succ, List.set_cons_zero]
        refine wpS_this [12, 13, 14, 15, 16, 17, 18, 19, 20, 21, 22, 23, 24, 25] rfl (by kernel_rfl) (by simp only [pickL, nthL, List.cons_append, List.nil_append]; rfl) ?_
        repeat (go_big_quiet_step (fail))
        refine wpQuiet_nil ?_
        refine wpS_nil ?_
        refine then_normal ?_
        refine wp_cond_false rfl ?_
        refine wp_skip ?_
        refine then_normal ?_
        refine wp_seq ?_
        obtain ⟨f1, f2, sf, fe, hf'⟩ := next_letters (nextP (a1, a2, sa) n st)
        have hf := Lib.hid hf'
        clear hf'
        refine wp_region_N [(0, 1), (1, 1), (2, 1), (3, 3), (4, 1), (5, 1), (6, 1), (7, 3), (8, 3), (9, 1)] (by kernel_rfl) ?_
        have Cb5 := Mem.cell HM344.out 11 rfl
        refine wpS_this [0, 1, 2] rfl (by kernel_rfl) (by simp only [pickL, nthL, List.cons_append, List.nil_append]; rfl) ?_
        repeat (go_big_quiet_step (fail))
        refine wpQuiet_nil ?_
        clear Cb5
        refine wpS_doesU3 (i := 3) (d := some 121) (rem := [_, _, _, _, _, _, _, _, _, _, _]) rfl (by rfl) rfl Try.call10 (next_d (oldT W0) _ a1 a2 sa (srcOld ha) la n _ st (srcOld ht) lt f1 f2 sf fe hf.out) rfl rfl rfl HM344.out [0] rfl covS_nil (fun _ => rfl) rfl ?_
        rintro u347 W346 hm345 -
        obtain ⟨pf, cf, rfl, hm345q⟩ := Mem.next rfl hm345
        clear hm345
        have HM348 := Lib.hid hm345q
        clear hm345q
        simp only [Act.put, List.setIfInBounds_toArray, List.set_cons_succ, List.set_cons_zero]
        refine wpS_this [4, 5, 6] rfl (by kernel_rfl) (by simp only [pickL, nthL, List.cons_append, List.nil_append]; rfl) ?_
        repeat (go_big_quiet_step (fail))
        refine wpQuiet_nil ?_
        refine wpS_alloc (i := 7) (dd := 15) (z := .agg #[.int .i64 0, .int .i64 0, .slice none 0 0]) (cs := #[.int .i64 0, .int .i64 0, .slice none 0 0]) rfl (by rfl) rfl (by kernel_rfl) rfl HM348.out covS_nil rfl ?_
        rintro b351 W350 hm349 -
        have HM352 := Lib.hid hm349
        clear hm349
        simp only [Act.put, List.setIfInBounds_toArray, List.set_cons_succ, List.set_cons_zero]
        refine wpS_storeA (i := 8) (L2 := [_, _, _, _, _, _, _, _, _, _, _, _, _]) (cs' := [_, _, _]) rfl (by rfl) rfl rfl rfl (by kernel_rfl) (by rfl) HM352.out 0 rfl rfl rfl rfl covS_nil rfl ?_
        rintro W354 hm353 -
        have HM355 := Lib.hid hm353
        clear hm353
        refine wpS_this [9] rfl (by kernel_rfl) (by simp only [pickL, nthL, List.cons_append, List.nil_append]; rfl) ?_
        repeat (go_big_quiet_step (fail))
        refine wpQuiet_nil ?_
        refine wpS_nil ?_
        refine then_normal ?_
        refine wp_seq ?_
        by_cases hef : fe = 0
        · have hok := next_ok hf.out hef
          obtain ⟨ho1, ho2, ho3, ho4, ho5⟩ := hok
          simp only [Prod.mk.injEq] at ho5
          obtain ⟨r1, r2, r3⟩ := ho5
          subst f1
          subst f2
          subst sf
          subst fe
          have hbd := mayP_le ho1
          have hb0 : 0 ≤ a1 := hbd.1
          have hb1 : a1 < 1000000 := by have h1 : a1 ≤ 1000000 := hbd.2; have h2 : a1 ≠ 1000000 := ho4; omega
          clear hbd
          have hmd := Lib.hid (mayP_next ho1 ho2 ho3 ho4)
          have hjd : Hid (joinP (a1 + 1, n, st) (a1, a2, sa) = (a1 + 1, n, st)) := Lib.hid (joinC_left (by rw [cmpP_cmp.neg, cmpP_v (show a1 < a1 + 1 by omega)]; decide))
          clear ho1 ho2 ho3 ho4
          have gee : (a1 + 1 == a1 + 1) = true := beq_self_eq_true _
          try clear r1
          try clear hef
          refine wp_region_M (fun k => k ∈ ([b3, b7, b11, b52, b351] : List Nat)) [(0, 1), (1, 1), (2, 1), (3, 1), (4, 1), (5, 3), (6, 1), (7, 1), (8, 1), (9, 3), (10, 1), (11, 1), (12, 1), (13, 1), (14, 1), (15, 1), (16, 1), (17, 1), (18, 1), (19, 1), (20, 1), (21, 1), (23, 2), (22, 3), (24, 3), (25, 1), (26, 1), (27, 1), (28, 3), (29, 1), (30, 1)] (by kernel_rfl) (by kernel_rfl) HM355.out ?_
          intro W356 hm357
          have HM358 := Lib.hid hm357
          clear hm357
          have Cb15 := Mem.cell HM358.out 0 rfl
          have Cb5 := Mem.cell HM358.out 13 rfl
          refine wpS_this [0, 1, 2, 3, 4] rfl (by kernel_rfl) (by simp only [pickL, nthL, List.cons_append, List.nil_append]; rfl) ?_
          repeat (go_big_quiet_step (fail))
          refine wpQuiet_nil ?_
          clear Cb15 Cb5
          refine wpS_does2 (i := 5) (d := some 129) (rem := [_, _, _, _, _, _, _, _, _, _, _, _]) (out := [_, _, _, _, _, _, _, _, _, _, _, _, _, _]) rfl (by rfl) rfl Try.call14 (Does.ofList (compare_d (listT [_, _]) _ (a1 + 1) n st (srcL 0 rfl rowT_reads) lt _ a1 a2 sa (srcL 1 rfl (srcOld ha)) la)) rfl rfl HM358.out [1, 1] rfl (covS_box 11 rfl (covS_box 10 rfl (covS_box 9 rfl (covS_box 7 rfl (covS_box 0 rfl covS_nil))))) rfl rfl ?_
          rintro W360 hm359 hg361
          rw [cmpP_v (show a1 < a1 + 1 by omega)]
          have HM362 := Lib.hid hm359
          clear hm359
          simp only [Act.put, List.setIfInBounds_toArray, List.set_cons_succ, List.set_cons_zero]
          have Cb15 := Mem.cell HM362.out 2 rfl
          refine wpS_this [6, 7, 8] rfl (by kernel_rfl) (by simp only [pickL, nthL, List.cons_append, List.nil_append]; rfl) ?_
          repeat (go_big_quiet_step (fail))
          refine wpQuiet_nil ?_
          clear Cb15
          refine wpS_does1 (i := 9) (d := some 133) (rem := [_, _, _, _, _, _, _, _, _, _, _, _, _]) (out := [_, _, _, _, _, _, _, _, _, _, _, _, _, _]) rfl (by rfl) rfl Try.call12 (may_d (rowT elemI _ _) _ (a1 + 1) n st rowT_reads lt) rfl HM362.out [0] rfl (covS_box 12 rfl (covS_box 11 rfl (covS_box 10 rfl (covS_box 8 rfl (covS_box 1 rfl covS_nil))))) rfl rfl ?_
          rintro W364 hm363 hg365
          rw [hmd.out]
          have HM366 := Lib.hid hm363
          clear hm363
          simp only [Act.put, List.setIfInBounds_toArray, List.set_cons_succ, List.set_cons_zero]
          have Cb15 := Mem.cell HM366.out 2 rfl
          have Cb5 := Mem.cell HM366.out 13 rfl
          refine wpS_this [10, 11, 12, 13, 14, 15, 16, 17, 18, 19, 20, 21] rfl (by kernel_rfl) (by simp only [pickL, nthL, List.cons_append, List.nil_append]; rfl) ?_
          repeat (go_big_quiet_step (fail))
          refine wpQuiet_nil ?_
          clear Cb15 Cb5
          have Cb15 := Mem.cell HM366.out 2 rfl
          refine wpS_stay [23] rfl (by kernel_rfl) (by simp only [pickL, nthL, List.cons_append, List.nil_append]; rfl) ?_
          repeat (go_big_quiet_step (fail))
          refine wpQuiet_nil ?_
          clear Cb15
          refine wpS_doesU2 (i := 22) (d := some 146) (rem := [_, _, _, _, _, _, _, _, _, _, _, _]) rfl (by rfl) rfl Try.call17 (DoesU.ofList (join_d (listT [_, _]) _ (a1 + 1) n st (srcL 0 rfl rowT_reads) lt _ a1 a2 sa (srcL 1 rfl (srcOld ha)) la (a1 + 1) n st hjd.out)) rfl rfl HM366.out [0, 0] rfl (covS_box 11 rfl (covS_box 10 rfl (covS_box 9 rfl (covS_box 7 rfl (covS_box 0 rfl covS_nil))))) (fun _ => rfl) rfl ?_
          rintro u370 W368 hm367 hg369
          obtain ⟨pg, cg, rfl, hm367q⟩ := Mem.plan rfl hm367
          clear hm367
          have HM371 := Lib.hid hm367q
          clear hm367q
          simp only [Act.put, List.setIfInBounds_toArray, List.set_cons_succ, List.set_cons_zero]
          refine wpS_does2 (i := 24) (d := some 148) (rem := [_, _, _, _, _, _, _, _, _, _, _, _, _]) (out := [_, _, _, _, _, _, _, _, _, _, _, _, _, _, _]) rfl (by rfl) rfl Try.call16 (Does.ofList (same_d (listT [_, _]) _ (a1 + 1) n st (srcL 0 rfl rowT_reads) lt _ (a1 + 1) n st (srcL 1 rfl rowT_reads) lt)) rfl rfl HM371.out [0, 0] rfl (covS_box 12 rfl (covS_box 11 rfl (covS_box 10 rfl (covS_box 8 rfl (covS_box 1 rfl covS_nil))))) rfl rfl ?_
          rintro W373 hm372 hg374
          rw [same_self]
          have HM375 := Lib.hid hm372
          clear hm372
          simp only [Act.put, List.setIfInBounds_toArray, List.set_cons_succ, List.set_cons_zero]
          refine wpS_this [25, 26, 27] rfl (by kernel_rfl) (by simp only [pickL, nthL, List.cons_append, List.nil_append]; rfl) ?_
          repeat (go_big_quiet_step (fail))
          refine wpQuiet_nil ?_
          refine wpS_does0 (i := 28) (d := some 152) (rem := [_, _, _, _, _, _, _, _, _, _, _, _, _, _, _]) (out := [_, _, _, _, _, _, _, _, _, _, _, _, _, _, _]) rfl (by rfl) rfl Try.call9 (awake_d)  HM375.out [] rfl (covS_box 14 rfl (covS_box 13 rfl (covS_box 12 rfl (covS_box 10 rfl (covS_box 3 rfl covS_nil))))) rfl rfl ?_
          rintro W377 hm376 hg378
          have HM379 := Lib.hid hm376
          clear hm376
          simp only [Act.put, List.setIfInBounds_toArray, List.set_cons_succ, List.set_cons_zero]
          refine wpS_this [29, 30] rfl (by kernel_rfl) (by simp only [pickL, nthL, List.cons_append, List.nil_append]; rfl) ?_
          repeat (go_big_quiet_step (fail))
          refine wpQuiet_nil ?_
          refine wpS_nil ?_
          refine then_normal ?_
          refine wp_ret ?_
          refine bodyPost_ret (results_tmp rfl _ _ _) rfl ?_
          exact does_ret (Mem.only (M := [_]) HM379.out [2] rfl) rfl rfl
        · have gfe : (fe != 0) = true := bne_iff_ne.2 hef
          replace hef := Lib.hid hef
          refine wp_region_M (fun k => k ∈ ([b3, b7, b11, b52, b351] : List Nat)) [(0, 1), (1, 1), (2, 1), (3, 1), (4, 1), (5, 3), (6, 1), (7, 1), (8, 1), (9, 3), (10, 1), (11, 1), (12, 1), (13, 1), (14, 1), (15, 1), (16, 1), (17, 1), (18, 1), (19, 1), (20, 1), (21, 1), (23, 2), (22, 3), (24, 3), (25, 1), (26, 1), (27, 1), (28, 3), (29, 1), (30, 1)] (by kernel_rfl) (by kernel_rfl) HM355.out ?_
          intro W380 hm381
          have HM382 := Lib.hid hm381
          clear hm381
          have Cb15 := Mem.cell HM382.out 0 rfl
          have Cb5 := Mem.cell HM382.out 13 rfl
          refine wpS_this [0, 1, 2, 3, 4] rfl (by kernel_rfl) (by simp only [pickL, nthL, List.cons_append, List.nil_append]; rfl) ?_
          repeat (go_big_quiet_step (fail))
          refine wpQuiet_nil ?_
          clear Cb15 Cb5
          refine wpS_skip (i := 5) (d := some 129) rfl (by rfl) rfl ?_
          simp only [Act.put, List.setIfInBounds_toArray, List.set_cons_succ, List.set_cons_zero]
          have Cb15 := Mem.cell HM382.out 0 rfl
          refine wpS_this [6, 7, 8] rfl (by kernel_rfl) (by simp only [pickL, nthL, List.cons_append, List.nil_append]; rfl) ?_
          repeat (go_big_quiet_step (fail))
          refine wpQuiet_nil ?_
          clear Cb15
          refine wpS_skip (i := 9) (d := some 133) rfl (by rfl) rfl ?_
          simp only [Act.put, List.setIfInBounds_toArray, List.set_cons_succ, List.set_cons_zero]
          have Cb15 := Mem.cell HM382.out 0 rfl
          have Cb5 := Mem.cell HM382.out 13 rfl
          refine wpS_this [10, 11, 12, 13, 14, 15, 16, 17, 18, 19, 20, 21] rfl (by kernel_rfl) (by simp only [pickL, nthL, List.cons_append, List.nil_append]; rfl) ?_
          repeat (go_big_quiet_step (fail))
          refine wpQuiet_nil ?_
          clear Cb15 Cb5
          have Cb15 := Mem.cell HM382.out 0 rfl
          refine wpS_stay [23] rfl (by kernel_rfl) (by simp only [pickL, nthL, List.cons_append, List.nil_append]; rfl) ?_
          repeat (go_big_quiet_step (fail))
          refine wpQuiet_nil ?_
          clear Cb15
          refine wpS_skip (i := 22) (d := some 146) rfl (by rfl) rfl ?_
          simp only [Act.put, List.setIfInBounds_toArray, List.set_cons_succ, List.set_cons_zero]
          refine wpS_skip (i := 24) (d := some 148) rfl (by rfl) rfl ?_
          simp only [Act.put, List.setIfInBounds_toArray, List.set_cons_succ, List.set_cons_zero]
          refine wpS_this [25, 26, 27] rfl (by kernel_rfl) (by simp only [pickL, nthL, List.cons_append, List.nil_append]; rfl) ?_
          repeat (go_big_quiet_step (fail))
          refine wpQuiet_nil ?_
          refine wpS_does0 (i := 28) (d := some 152) (rem := [_, _, _, _, _, _, _, _, _, _, _, _, _, _]) (out := [_, _, _, _, _, _, _, _, _, _, _, _, _, _]) rfl (by rfl) rfl Try.call9 (awake_d)  HM382.out [] rfl (covS_box 13 rfl (covS_box 12 rfl (covS_box 11 rfl (covS_box 9 rfl (covS_box 0 rfl covS_nil))))) rfl rfl ?_
          rintro W384 hm383 hg385
          have HM386 := Lib.hid hm383
          clear hm383
          simp only [Act.put, List.setIfInBounds_toArray, List.set_cons_succ, List.set_cons_zero]
          refine wpS_this [29, 30] rfl (by kernel_rfl) (by simp only [pickL, nthL, List.cons_append, List.nil_append]; rfl) ?_
          repeat (go_big_quiet_step (fail))
          refine wpQuiet_nil ?_
          refine wpS_nil ?_
          refine then_normal ?_
          refine wp_ret ?_
          refine bodyPost_ret (results_tmp rfl _ _ _) rfl ?_
          exact does_ret (Mem.only (M := [_]) HM386.out [2] rfl) rfl rfl
      · have gp : decide (e1 ≤ 0) = true := decide_eq_true (by omega)
        have gq : decide (e2 ≤ 0) = false := decide_eq_false (by omega)
        clear k1 k2
        refine wp_region_N [(0, 1), (1, 1), (2, 1), (3, 3), (4, 1), (5, 1), (6, 1), (7, 1), (8, 1), (9, 1), (10, 1), (11, 3), (12, 1), (13, 1), (14, 1), (15, 1), (16, 1), (17, 1), (18, 1), (19, 1), (20, 1), (21, 1), (22, 1), (23, 1), (24, 1), (25, 1)] (by kernel_rfl) ?_
        have Cb6 := Mem.cell HM338.out 10 rfl
        have Cb5 := Mem.cell HM338.out 11 rfl
        refine wpS_this [0, 1, 2] rfl (by kernel_rfl) (by simp only [pickL, nthL, List.cons_append, List.nil_append]; rfl) ?_
        repeat (go_big_quiet_step (fail))
        refine wpQuiet_nil ?_
        clear Cb6 Cb5
        refine wpS_does2 (i := 3) (d := some 94) (rem := [_, _, _, _, _, _, _, _, _, _, _]) (out := [_, _, _, _, _, _, _, _, _, _, _, _]) rfl (by rfl) rfl Try.call14 (compare_d (oldT W0) _ b1 b2 sb (srcOld hb) lb _ a1 a2 sa (srcOld ha) la) rfl rfl HM338.out [0] rfl covS_nil rfl rfl ?_
        rintro W388 hm387 -
        rw [hd.out]
        have HM389 := Lib.hid hm387
        clear hm387
        simp only [Act.put, List.setIfInBounds_toArray, List.set_cons_succ, List.set_cons_zero]
        have Cb5 := Mem.cell HM389.out 11 rfl
        have Cb6 := Mem.cell HM389.out 10 rfl
        refine wpS_this [4, 5, 6, 7, 8, 9, 10] rfl (by kernel_rfl) (by simp only [pickL, nthL, List.cons_append, List.nil_append]; rfl) ?_
        repeat (go_big_quiet_step (fail))
        refine wpQuiet_nil ?_
        clear Cb5 Cb6
        refine wpS_does2 (i := 11) (d := some 102) (rem := [_, _, _, _, _, _, _, _, _, _, _]) (out := [_, _, _, _, _, _, _, _, _, _, _, _]) rfl (by rfl) rfl Try.call16 (same_d (oldT W0) _ a1 a2 sa (srcOld ha) la _ b1 b2 sb (srcOld hb) lb) rfl rfl HM389.out [0] rfl covS_nil rfl rfl ?_
        rintro W391 hm390 -
        rw [gab.out]
        have HM392 := Lib.hid hm390
        clear hm390
        simp only [Act.put, List.setIfInBounds_toArray, List.set_cons_succ, List.set_cons_zero]
        refine wpS_this [12, 13, 14, 15, 16, 17, 18, 19, 20, 21, 22, 23, 24, 25] rfl (by kernel_rfl) (by simp only [pickL, nthL, List.cons_append, List.nil_append]; rfl) ?_
        repeat (go_big_quiet_step (fail))
        refine wpQuiet_nil ?_
        refine wpS_nil ?_
        refine then_normal ?_
        refine wp_cond_false rfl ?_
        refine wp_skip ?_
        refine then_normal ?_
        refine wp_seq ?_
        obtain ⟨f1, f2, sf, fe, hf'⟩ := next_letters (nextP (a1, a2, sa) n st)
        have hf := Lib.hid hf'
        clear hf'
        refine wp_region_N [(0, 1), (1, 1), (2, 1), (3, 3), (4, 1), (5, 1), (6, 1), (7, 3), (8, 3), (9, 1)] (by kernel_rfl) ?_
        have Cb5 := Mem.cell HM392.out 11 rfl
        refine wpS_this [0, 1, 2] rfl (by kernel_rfl) (by simp only [pickL, nthL, List.cons_append, List.nil_append]; rfl) ?_
        repeat (go_big_quiet_step (fail))
        refine wpQuiet_nil ?_
        clear Cb5
        refine wpS_doesU3 (i := 3) (d := some 121) (rem := [_, _, _, _, _, _, _, _, _, _, _]) rfl (by rfl) rfl Try.call10 (next_d (oldT W0) _ a1 a2 sa (srcOld ha) la n _ st (srcOld ht) lt f1 f2 sf fe hf.out) rfl rfl rfl HM392.out [0] rfl covS_nil (fun _ => rfl) rfl ?_
        rintro u395 W394 hm393 -
        obtain ⟨pf, cf, rfl, hm393q⟩ := Mem.next rfl hm393
        clear hm393
        have HM396 := Lib.hid hm393q
        clear hm393q
        simp only [Act.put, List.setIfInBounds_toArray, List.set_cons_succ, List.set_cons_zero]
        refine wpS_this [4, 5, 6] rfl (by kernel_rfl) (by simp only [pickL, nthL, List.cons_append, List.nil_append]; rfl) ?_
        repeat (go_big_quiet_step (fail))
        refine wpQuiet_nil ?_
        refine wpS_alloc (i := 7) (dd := 15) (z := .agg #[.int .i64 0, .int .i64 0, .slice none 0 0]) (cs := #[.int .i64 0, .int .i64 0, .slice none 0 0]) rfl (by rfl) rfl (by kernel_rfl) rfl HM396.out covS_nil rfl ?_
        rintro b399 W398 hm397 -
        have HM400 := Lib.hid hm397
        clear hm397
        simp only [Act.put, List.setIfInBounds_toArray, List.set_cons_succ, List.set_cons_zero]
        refine wpS_storeA (i := 8) (L2 := [_, _, _, _, _, _, _, _, _, _, _, _, _]) (cs' := [_, _, _]) rfl (by rfl) rfl rfl rfl (by kernel_rfl) (by rfl) HM400.out 0 rfl rfl rfl rfl covS_nil rfl ?_
        rintro W402 hm401 -
        have HM403 := Lib.hid hm401
        clear hm401
        refine wpS_this [9] rfl (by kernel_rfl) (by simp only [pickL, nthL, List.cons_append, List.nil_append]; rfl) ?_
        repeat (go_big_quiet_step (fail))
        refine wpQuiet_nil ?_
        refine wpS_nil ?_
        refine then_normal ?_
        refine wp_seq ?_
        by_cases hef : fe = 0
        · have hok := next_ok hf.out hef
          obtain ⟨ho1, ho2, ho3, ho4, ho5⟩ := hok
          simp only [Prod.mk.injEq] at ho5
          obtain ⟨r1, r2, r3⟩ := ho5
          subst f1
          subst f2
          subst sf
          subst fe
          have hbd := mayP_le ho1
          have hb0 : 0 ≤ a1 := hbd.1
          have hb1 : a1 < 1000000 := by have h1 : a1 ≤ 1000000 := hbd.2; have h2 : a1 ≠ 1000000 := ho4; omega
          clear hbd
          have hmd := Lib.hid (mayP_next ho1 ho2 ho3 ho4)
          have hjd : Hid (joinP (a1 + 1, n, st) (a1, a2, sa) = (a1 + 1, n, st)) := Lib.hid (joinC_left (by rw [cmpP_cmp.neg, cmpP_v (show a1 < a1 + 1 by omega)]; decide))
          clear ho1 ho2 ho3 ho4
          have gee : (a1 + 1 == a1 + 1) = true := beq_self_eq_true _
          try clear r1
          try clear hef
          refine wp_region_M (fun k => k ∈ ([b3, b7, b11, b52, b399] : List Nat)) [(0, 1), (1, 1), (2, 1), (3, 1), (4, 1), (5, 3), (6, 1), (7, 1), (8, 1), (9, 3), (10, 1), (11, 1), (12, 1), (13, 1), (14, 1), (15, 1), (16, 1), (17, 1), (18, 1), (19, 1), (20, 1), (21, 1), (23, 2), (22, 3), (24, 3), (25, 1), (26, 1), (27, 1), (28, 3), (29, 1), (30, 1)] (by kernel_rfl) (by kernel_rfl) HM403.out ?_
          intro W404 hm405
          have HM406 := Lib.hid hm405
          clear hm405
          have Cb15 := Mem.cell HM406.out 0 rfl
          have Cb5 := Mem.cell HM406.out 13 rfl
          refine wpS_this [0, 1, 2, 3, 4] rfl (by kernel_rfl) (by simp only [pickL, nthL, List.cons_append, List.nil_append]; rfl) ?_
          repeat (go_big_quiet_step (fail))
          refine wpQuiet_nil ?_
          clear Cb15 Cb5
          refine wpS_does2 (i := 5) (d := some 129) (rem := [_, _, _, _, _, _, _, _, _, _, _, _]) (out := [_, _, _, _, _, _, _, _, _, _, _, _, _, _]) rfl (by rfl) rfl Try.call14 (Does.ofList (compare_d (listT [_, _]) _ (a1 + 1) n st (srcL 0 rfl rowT_reads) lt _ a1 a2 sa (srcL 1 rfl (srcOld ha)) la)) rfl rfl HM406.out [1, 1] rfl (covS_box 11 rfl (covS_box 10 rfl (covS_box 9 rfl (covS_box 7 rfl (covS_box 0 rfl covS_nil))))) rfl rfl ?_
          rintro W408 hm407 hg409
          rw [cmpP_v (show a1 < a1 + 1 by omega)]
          have HM410 := Lib.hid hm407
          clear hm407
          simp only [Act.put, List.setIfInBounds_toArray, List.set_cons_succ, List.set_cons_zero]
          have Cb15 := Mem.cell HM410.out 2 rfl
          refine wpS_this [6, 7, 8] rfl (by kernel_rfl) (by simp only [pickL, nthL, List.cons_append, List.nil_append]; rfl) ?_
          repeat (go_big_quiet_step (fail))
          refine wpQuiet_nil ?_
          clear Cb15
          refine wpS_does1 (i := 9) (d := some 133) (rem := [_, _, _, _, _, _, _, _, _, _, _, _, _]) (out := [_, _, _, _, _, _, _, _, _, _, _, _, _, _]) rfl (by rfl) rfl Try.call12 (may_d (rowT elemI _ _) _ (a1 + 1) n st rowT_reads lt) rfl HM410.out [0] rfl (covS_box 12 rfl (covS_box 11 rfl (covS_box 10 rfl (covS_box 8 rfl (covS_box 1 rfl covS_nil))))) rfl rfl ?_
          rintro W412 hm411 hg413
          rw [hmd.out]
          have HM414 := Lib.hid hm411
          clear hm411
          simp only [Act.put, List.setIfInBounds_toArray, List.set_cons_succ, List.set_cons_zero]
          have Cb15 := Mem.cell HM414.out 2 rfl
          have Cb5 := Mem.cell HM414.out 13 rfl
          refine wpS_this [10, 11, 12, 13, 14, 15, 16, 17, 18, 19, 20, 21] rfl (by kernel_rfl) (by simp only [pickL, nthL, List.cons_append, List.nil_append]; rfl) ?_
          repeat (go_big_quiet_step (fail))
          refine wpQuiet_nil ?_
          clear Cb15 Cb5
          have Cb15 := Mem.cell HM414.out 2 rfl
          refine wpS_stay [23] rfl (by kernel_rfl) (by simp only [pickL, nthL, List.cons_append, List.nil_append]; rfl) ?_
          repeat (go_big_quiet_step (fail))
          refine wpQuiet_nil ?_
          clear Cb15
          refine wpS_doesU2 (i := 22) (d := some 146) (rem := [_, _, _, _, _, _, _, _, _, _, _, _]) rfl (by rfl) rfl Try.call17 (DoesU.ofList (join_d (listT [_, _]) _ (a1 + 1) n st (srcL 0 rfl rowT_reads) lt _ a1 a2 sa (srcL 1 rfl (srcOld ha)) la (a1 + 1) n st hjd.out)) rfl rfl HM414.out [0, 0] rfl (covS_box 11 rfl (covS_box 10 rfl (covS_box 9 rfl (covS_box 7 rfl (covS_box 0 rfl covS_nil))))) (fun _ => rfl) rfl ?_
          rintro u418 W416 hm415 hg417
          obtain ⟨pg, cg, rfl, hm415q⟩ := Mem.plan rfl hm415
          clear hm415
          have HM419 := Lib.hid hm415q
          clear hm415q
          simp only [Act.put, List.setIfInBounds_toArray, List.set_cons_succ, List.set_cons_zero]
          refine wpS_does2 (i := 24) (d := some 148) (rem := [_, _, _, _, _, _, _, _, _, _, _, _, _]) (out := [_, _, _, _, _, _, _, _, _, _, _, _, _, _, _]) rfl (by rfl) rfl Try.call16 (Does.ofList (same_d (listT [_, _]) _ (a1 + 1) n st (srcL 0 rfl rowT_reads) lt _ (a1 + 1) n st (srcL 1 rfl rowT_reads) lt)) rfl rfl HM419.out [0, 0] rfl (covS_box 12 rfl (covS_box 11 rfl (covS_box 10 rfl (covS_box 8 rfl (covS_box 1 rfl covS_nil))))) rfl rfl ?_
          rintro W421 hm420 hg422
          rw [same_self]
          have HM423 := Lib.hid hm420
          clear hm420
          simp only [Act.put, List.setIfInBounds_toArray, List.set_cons_succ, List.set_cons_zero]
          refine wpS_this [25, 26, 27] rfl (by kernel_rfl) (by simp only [pickL, nthL, List.cons_append, List.nil_append]; rfl) ?_
          repeat (go_big_quiet_step (fail))
          refine wpQuiet_nil ?_
          refine wpS_does0 (i := 28) (d := some 152) (rem := [_, _, _, _, _, _, _, _, _, _, _, _, _, _, _]) (out := [_, _, _, _, _, _, _, _, _, _, _, _, _, _, _]) rfl (by rfl) rfl Try.call9 (awake_d)  HM423.out [] rfl (covS_box 14 rfl (covS_box 13 rfl (covS_box 12 rfl (covS_box 10 rfl (covS_box 3 rfl covS_nil))))) rfl rfl ?_
          rintro W425 hm424 hg426
          have HM427 := Lib.hid hm424
          clear hm424
          simp only [Act.put, List.setIfInBounds_toArray, List.set_cons_succ, List.set_cons_zero]
          refine wpS_this [29, 30] rfl (by kernel_rfl) (by simp only [pickL, nthL, List.cons_append, List.nil_append]; rfl) ?_
          repeat (go_big_quiet_step (fail))
          refine wpQuiet_nil ?_
          refine wpS_nil ?_
          refine then_normal ?_
          refine wp_ret ?_
          refine bodyPost_ret (results_tmp rfl _ _ _) rfl ?_
          exact does_ret (Mem.only (M := [_]) HM427.out [2] rfl) rfl rfl
        · have gfe : (fe != 0) = true := bne_iff_ne.2 hef
          replace hef := Lib.hid hef
          refine wp_region_M (fun k => k ∈ ([b3, b7, b11, b52, b399] : List Nat)) [(0, 1), (1, 1), (2, 1), (3, 1), (4, 1), (5, 3), (6, 1), (7, 1), (8, 1), (9, 3), (10, 1), (11, 1), (12, 1), (13, 1), (14, 1), (15, 1), (16, 1), (17, 1), (18, 1), (19, 1), (20, 1), (21, 1), (23, 2), (22, 3), (24, 3), (25, 1), (26, 1), (27, 1), (28, 3), (29, 1), (30, 1)] (by kernel_rfl) (by kernel_rfl) HM403.out ?_
          intro W428 hm429
          have HM430 := Lib.hid hm429
          clear hm429
          have Cb15 := Mem.cell HM430.out 0 rfl
          have Cb5 := Mem.cell HM430.out 13 rfl
          refine wpS_this [0, 1, 2, 3, 4] rfl (by kernel_rfl) (by simp only [pickL, nthL, List.cons_append, List.nil_append]; rfl) ?_
          repeat (go_big_quiet_step (fail))
          refine wpQuiet_nil ?_
          clear Cb15 Cb5
          refine wpS_skip (i := 5) (d := some 129) rfl (by rfl) rfl ?_
          simp only [Act.put, List.setIfInBounds_toArray, List.set_cons_succ, List.set_cons_zero]
          have Cb15 := Mem.cell HM430.out 0 rfl
          refine wpS_this [6, 7, 8] rfl (by kernel_rfl) (by simp only [pickL, nthL, List.cons_append, List.nil_append]; rfl) ?_
          repeat (go_big_quiet_step (fail))
          refine wpQuiet_nil ?_
          clear Cb15
          refine wpS_skip (i := 9) (d := some 133) rfl (by rfl) rfl ?_
          simp only [Act.put, List.setIfInBounds_toArray, List.set_cons_succ, List.set_cons_zero]
          have Cb15 := Mem.cell HM430.out 0 rfl
          have Cb5 := Mem.cell HM430.out 13 rfl
          refine wpS_this [10, 11, 12, 13, 14, 15, 16, 17, 18, 19, 20, 21] rfl (by kernel_rfl) (by simp only [pickL, nthL, List.cons_append, List.nil_append]; rfl) ?_
          repeat (go_big_quiet_step (fail))
          refine wpQuiet_nil ?_
          clear Cb15 Cb5
          have Cb15 := Mem.cell HM430.out 0 rfl
          refine wpS_stay [23] rfl (by kernel_rfl) (by simp only [pickL, nthL, List.cons_append, List.nil_append]; rfl) ?_
          repeat (go_big_quiet_step (fail))
          refine wpQuiet_nil ?_
          clear Cb15
          refine wpS_skip (i := 22) (d := some 146) rfl (by rfl) rfl ?_
          simp only [Act.put, List.setIfInBounds_toArray, List.set_cons_succ, List.set_cons_zero]
          refine wpS_skip (i := 24) (d := some 148) rfl (by rfl) rfl ?_
          simp only [Act.put, List.setIfInBounds_toArray, List.set_cons_succ, List.set_cons_zero]
          refine wpS_this [25, 26, 27] rfl (by kernel_rfl) (by simp only [pickL, nthL, List.cons_append, List.nil_append]; rfl) ?_
          repeat (go_big_quiet_step (fail))
          refine wpQuiet_nil ?_
          refine wpS_does0 (i := 28) (d := some 152) (rem := [_, _, _, _, _, _, _, _, _, _, _, _, _, _]) (out := [_, _, _, _, _, _, _, _, _, _, _, _, _, _]) rfl (by rfl) rfl Try.call9 (awake_d)  HM430.out [] rfl (covS_box 13 rfl (covS_box 12 rfl (covS_box 11 rfl (covS_box 9 rfl (covS_box 0 rfl covS_nil))))) rfl rfl ?_
          rintro W432 hm431 hg433
          have HM434 := Lib.hid hm431
          clear hm431
          simp only [Act.put, List.setIfInBounds_toArray, List.set_cons_succ, List.set_cons_zero]
          refine wpS_this [29, 30] rfl (by kernel_rfl) (by simp only [pickL, nthL, List.cons_append, List.nil_append]; rfl) ?_
          repeat (go_big_quiet_step (fail))
          refine wpQuiet_nil ?_
          refine wpS_nil ?_
          refine then_normal ?_
          refine wp_ret ?_
          refine bodyPost_ret (results_tmp rfl _ _ _) rfl ?_
          exact does_ret (Mem.only (M := [_]) HM434.out [2] rfl) rfl rfl
      · have gp : decide (e1 ≤ 0) = true := decide_eq_true (by omega)
        have gq : decide (e2 ≤ 0) = true := decide_eq_true (by omega)
        have k3 := htr.out k1 k2
        have gr : decide (0 < e3) = false := decide_eq_false (by omega)
        clear k1 k2 k3
        refine wp_region_N [(0, 1), (1, 1), (2, 1), (3, 3), (4, 1), (5, 1), (6, 1), (7, 1), (8, 1), (9, 1), (10, 1), (11, 3), (12, 1), (13, 1), (14, 1), (15, 1), (16, 1), (17, 1), (18, 1), (19, 1), (20, 1), (21, 1), (22, 1), (23, 1), (24, 1), (25, 1)] (by kernel_rfl) ?_
        have Cb6 := Mem.cell HM338.out 10 rfl
        have Cb5 := Mem.cell HM338.out 11 rfl
        refine wpS_this [0, 1, 2] rfl (by kernel_rfl) (by simp only [pickL, nthL, List.cons_append, List.nil_append]; rfl) ?_
        repeat (go_big_quiet_step (fail))
        refine wpQuiet_nil ?_
        clear Cb6 Cb5
        refine wpS_does2 (i := 3) (d := some 94) (rem := [_, _, _, _, _, _, _, _, _, _, _]) (out := [_, _, _, _, _, _, _, _, _, _, _, _]) rfl (by rfl) rfl Try.call14 (compare_d (oldT W0) _ b1 b2 sb (srcOld hb) lb _ a1 a2 sa (srcOld ha) la) rfl rfl HM338.out [0] rfl covS_nil rfl rfl ?_
        rintro W436 hm435 -
        rw [hd.out]
        have HM437 := Lib.hid hm435
        clear hm435
        simp only [Act.put, List.setIfInBounds_toArray, List.set_cons_succ, List.set_cons_zero]
        have Cb5 := Mem.cell HM437.out 11 rfl
        have Cb6 := Mem.cell HM437.out 10 rfl
        refine wpS_this [4, 5, 6, 7, 8, 9, 10] rfl (by kernel_rfl) (by simp only [pickL, nthL, List.cons_append, List.nil_append]; rfl) ?_
        repeat (go_big_quiet_step (fail))
        refine wpQuiet_nil ?_
        clear Cb5 Cb6
        refine wpS_does2 (i := 11) (d := some 102) (rem := [_, _, _, _, _, _, _, _, _, _, _]) (out := [_, _, _, _, _, _, _, _, _, _, _, _]) rfl (by rfl) rfl Try.call16 (same_d (oldT W0) _ a1 a2 sa (srcOld ha) la _ b1 b2 sb (srcOld hb) lb) rfl rfl HM437.out [0] rfl covS_nil rfl rfl ?_
        rintro W439 hm438 -
        rw [gab.out]
        have HM440 := Lib.hid hm438
        clear hm438
        simp only [Act.put, List.setIfInBounds_toArray, List.set_cons_succ, List.set_cons_zero]
        refine wpS_this [12, 13, 14, 15, 16, 17, 18, 19, 20, 21, 22, 23, 24, 25] rfl (by kernel_rfl) (by simp only [pickL, nthL, List.cons_append, List.nil_append]; rfl) ?_
        repeat (go_big_quiet_step (fail))
        refine wpQuiet_nil ?_
        refine wpS_nil ?_
        refine then_normal ?_
        refine wp_cond_false rfl ?_
        refine wp_skip ?_
        refine then_normal ?_
        refine wp_seq ?_
        obtain ⟨f1, f2, sf, fe, hf'⟩ := next_letters (nextP (a1, a2, sa) n st)
        have hf := Lib.hid hf'
        clear hf'
        refine wp_region_N [(0, 1), (1, 1), (2, 1), (3, 3), (4, 1), (5, 1), (6, 1), (7, 3), (8, 3), (9, 1)] (by kernel_rfl) ?_
        have Cb5 := Mem.cell HM440.out 11 rfl
        refine wpS_this [0, 1, 2] rfl (by kernel_rfl) (by simp only [pickL, nthL, List.cons_append, List.nil_append]; rfl) ?_
        repeat (go_big_quiet_step (fail))
        refine wpQuiet_nil ?_
        clear Cb5
        refine wpS_doesU3 (i := 3) (d := some 121) (rem := [_, _, _, _, _, _, _, _, _, _, _]) rfl (by rfl) rfl Try.call10 (next_d (oldT W0) _ a1 a2 sa (srcOld ha) la n _ st (srcOld ht) lt f1 f2 sf fe hf.out) rfl rfl rfl HM440.out [0] rfl covS_nil (fun _ => rfl) rfl ?_
        rintro u443 W442 hm441 -
        obtain ⟨pf, cf, rfl, hm441q⟩ := Mem.next rfl hm441
        clear hm441
        have HM444 := Lib.hid hm441q
        clear hm441q
        simp only [Act.put, List.setIfInBounds_toArray, List.set_cons_succ, List.set_cons_zero]
        refine wpS_this [4, 5, 6] rfl (by kernel_rfl) (by simp only [pickL, nthL, List.cons_append, List.nil_append]; rfl) ?_
        repeat (go_big_quiet_step (fail))
        refine wpQuiet_nil ?_
        refine wpS_alloc (i := 7) (dd := 15) (z := .agg #[.int .i64 0, .int .i64 0, .slice none 0 0]) (cs := #[.int .i64 0, .int .i64 0, .slice none 0 0]) rfl (by rfl) rfl (by kernel_rfl) rfl HM444.out covS_nil rfl ?_
        rintro b447 W446 hm445 -
        have HM448 := Lib.hid hm445
        clear hm445
        simp only [Act.put, List.setIfInBounds_toArray, List.set_cons_succ, List.set_cons_zero]
        refine wpS_storeA (i := 8) (L2 := [_, _, _, _, _, _, _, _, _, _, _, _, _]) (cs' := [_, _, _]) rfl (by rfl) rfl rfl rfl (by kernel_rfl) (by rfl) HM448.out 0 rfl rfl rfl rfl covS_nil rfl ?_
        rintro W450 hm449 -
        have HM451 := Lib.hid hm449
        clear hm449
        refine wpS_this [9] rfl (by kernel_rfl) (by simp only [pickL, nthL, List.cons_append, List.nil_append]; rfl) ?_
        repeat (go_big_quiet_step (fail))
        refine wpQuiet_nil ?_
        refine wpS_nil ?_
        refine then_normal ?_
        refine wp_seq ?_
        by_cases hef : fe = 0
        · have hok := next_ok hf.out hef
          obtain ⟨ho1, ho2, ho3, ho4, ho5⟩ := hok
          simp only [Prod.mk.injEq] at ho5
          obtain ⟨r1, r2, r3⟩ := ho5
          subst f1
          subst f2
          subst sf
          subst fe
          have hbd := mayP_le ho1
          have hb0 : 0 ≤ a1 := hbd.1
          have hb1 : a1 < 1000000 := by have h1 : a1 ≤ 1000000 := hbd.2; have h2 : a1 ≠ 1000000 := ho4; omega
          clear hbd
          have hmd := Lib.hid (mayP_next ho1 ho2 ho3 ho4)
          have hjd : Hid (joinP (a1 + 1, n, st) (a1, a2, sa) = (a1 + 1, n, st)) := Lib.hid (joinC_left (by rw [cmpP_cmp.neg, cmpP_v (show a1 < a1 + 1 by omega)]; decide))
          clear ho1 ho2 ho3 ho4
          have gee : (a1 + 1 == a1 + 1) = true := beq_self_eq_true _
          try clear r1
          try clear hef
          refine wp_region_M (fun k => k ∈ ([b3, b7, b11, b52, b447] : List Nat)) [(0, 1), (1, 1), (2, 1), (3, 1), (4, 1), (5, 3), (6, 1), (7, 1), (8, 1), (9, 3), (10, 1), (11, 1), (12, 1), (13, 1), (14, 1), (15, 1), (16, 1), (17, 1), (18, 1), (19, 1), (20, 1), (21, 1), (23, 2), (22, 3), (24, 3), (25, 1), (26, 1), (27, 1), (28, 3), (29, 1), (30, 1)] (by kernel_rfl) (by kernel_rfl) HM451.out ?_
          intro W452 hm453
          have HM454 := Lib.hid hm453
          clear hm453
          have Cb15 := Mem.cell HM454.out 0 rfl
          have Cb5 := Mem.cell HM454.out 13 rfl
          refine wpS_this [0, 1, 2, 3, 4] rfl (by kernel_rfl) (by simp only [pickL, nthL, List.cons_append, List.nil_append]; rfl) ?_
          repeat (go_big_quiet_step (fail))
          refine wpQuiet_nil ?_
          clear Cb15 Cb5
          refine wpS_does2 (i := 5) (d := some 129) (rem := [_, _, _, _, _, _, _, _, _, _, _, _]) (out := [_, _, _, _, _, _, _, _, _, _, _, _, _, _]) rfl (by rfl) rfl Try.call14 (Does.ofList (compare_d (listT [_, _]) _ (a1 + 1) n st (srcL 0 rfl rowT_reads) lt _ a1 a2 sa (srcL 1 rfl (srcOld ha)) la)) rfl rfl HM454.out [1, 1] rfl (covS_box 11 rfl (covS_box 10 rfl (covS_box 9 rfl (covS_box 7 rfl (covS_box 0 rfl covS_nil))))) rfl rfl ?_
          rintro W456 hm455 hg457
          rw [cmpP_v (show a1 < a1 + 1 by omega)]
          have HM458 := Lib.hid hm455
          clear hm455
          simp only [Act.put, List.setIfInBounds_toArray, List.set_cons_succ, List.set_cons_zero]
          have Cb15 := Mem.cell HM458.out 2 rfl
          refine wpS_this [6, 7, 8] rfl (by kernel_rfl) (by simp only [pickL, nthL, List.cons_append, List.nil_append]; rfl) ?_
          repeat (go_big_quiet_step (fail))
          refine wpQuiet_nil ?_
          clear Cb15
          refine wpS_does1 (i := 9) (d := some 133) (rem := [_, _, _, _, _, _, _, _, _, _, _, _, _]) (out := [_, _, _, _, _, _, _, _, _, _, _, _, _, _]) rfl (by rfl) rfl Try.call12 (may_d (rowT elemI _ _) _ (a1 + 1) n st rowT_reads lt) rfl HM458.out [0] rfl (covS_box 12 rfl (covS_box 11 rfl (covS_box 10 rfl (covS_box 8 rfl (covS_box 1 rfl covS_nil))))) rfl rfl ?_
          rintro W460 hm459 hg461
          rw [hmd.out]
          have HM462 := Lib.hid hm459
          clear hm459
          simp only [Act.put, List.setIfInBounds_toArray, List.set_cons_succ, List.set_cons_zero]
          have Cb15 := Mem.cell HM462.out 2 rfl
          have Cb5 := Mem.cell HM462.out 13 rfl
          refine wpS_this [10, 11, 12, 13, 14, 15, 16, 17, 18, 19, 20, 21] rfl (by kernel_rfl) (by simp only [pickL, nthL, List.cons_append, List.nil_append]; rfl) ?_
          repeat (go_big_quiet_step (fail))
          refine wpQuiet_nil ?_
          clear Cb15 Cb5
          have Cb15 := Mem.cell HM462.out 2 rfl
          refine wpS_stay [23] rfl (by kernel_rfl) (by simp only [pickL, nthL, List.cons_append, List.nil_append]; rfl) ?_
          repeat (go_big_quiet_step (fail))
          refine wpQuiet_nil ?_
          clear Cb15
          refine wpS_doesU2 (i := 22) (d := some 146) (rem := [_, _, _, _, _, _, _, _, _, _, _, _]) rfl (by rfl) rfl Try.call17 (DoesU.ofList (join_d (listT [_, _]) _ (a1 + 1) n st (srcL 0 rfl rowT_reads) lt _ a1 a2 sa (srcL 1 rfl (srcOld ha)) la (a1 + 1) n st hjd.out)) rfl rfl HM462.out [0, 0] rfl (covS_box 11 rfl (covS_box 10 rfl (covS_box 9 rfl (covS_box 7 rfl (covS_box 0 rfl covS_nil))))) (fun _ => rfl) rfl ?_
          rintro u466 W464 hm463 hg465
          obtain ⟨pg, cg, rfl, hm463q⟩ := Mem.plan rfl hm463
          clear hm463
          have HM467 := Lib.hid hm463q
          clear hm463q
          simp only [Act.put, List.setIfInBounds_toArray, List.set_cons_succ, List.set_cons_zero]
          refine wpS_does2 (i := 24) (d := some 148) (rem := [_, _, _, _, _, _, _, _, _, _, _, _, _]) (out := [_, _, _, _, _, _, _, _, _, _, _, _, _, _, _]) rfl (by rfl) rfl Try.call16 (Does.ofList (same_d (listT [_, _]) _ (a1 + 1) n st (srcL 0 rfl rowT_reads) lt _ (a1 + 1) n st (srcL 1 rfl rowT_reads) lt)) rfl rfl HM467.out [0, 0] rfl (covS_box 12 rfl (covS_box 11 rfl (covS_box 10 rfl (covS_box 8 rfl (covS_box 1 rfl covS_nil))))) rfl rfl ?_
          rintro W469 hm468 hg470
          rw [same_self]
          have HM471 := Lib.hid hm468
          clear hm468
          simp only [Act.put, List.setIfInBounds_toArray, List.set_cons_succ, List.set_cons_zero]
          refine wpS_this [25, 26, 27] rfl (by kernel_rfl) (by simp only [pickL, nthL, List.cons_append, List.nil_append]; rfl) ?_
          repeat (go_big_quiet_step (fail))
          refine wpQuiet_nil ?_
          refine wpS_does0 (i := 28) (d := some 152) (rem := [_, _, _, _, _, _, _, _, _, _, _, _, _, _, _]) (out := [_, _, _, _, _, _, _, _, _, _, _, _, _, _, _]) rfl (by rfl) rfl Try.call9 (awake_d)  HM471.out [] rfl (covS_box 14 rfl (covS_box 13 rfl (covS_box 12 rfl (covS_box 10 rfl (covS_box 3 rfl covS_nil))))) rfl rfl ?_
          rintro W473 hm472 hg474
          have HM475 := Lib.hid hm472
          clear hm472
          simp only [Act.put, List.setIfInBounds_toArray, List.set_cons_succ, List.set_cons_zero]
          refine wpS_this [29, 30] rfl (by kernel_rfl) (by simp only [pickL, nthL, List.cons_append, List.nil_append]; rfl) ?_
          repeat (go_big_quiet_step (fail))
          refine wpQuiet_nil ?_
          refine wpS_nil ?_
          refine then_normal ?_
          refine wp_ret ?_
          refine bodyPost_ret (results_tmp rfl _ _ _) rfl ?_
          exact does_ret (Mem.only (M := [_]) HM475.out [2] rfl) rfl rfl
        · have gfe : (fe != 0) = true := bne_iff_ne.2 hef
          replace hef := Lib.hid hef
          refine wp_region_M (fun k => k ∈ ([b3, b7, b11, b52, b447] : List Nat)) [(0, 1), (1, 1), (2, 1), (3, 1), (4, 1), (5, 3), (6, 1), (7, 1), (8, 1), (9, 3), (10, 1), (11, 1), (12, 1), (13, 1), (14, 1), (15, 1), (16, 1), (17, 1), (18, 1), (19, 1), (20, 1), (21, 1), (23, 2), (22, 3), (24, 3), (25, 1), (26, 1), (27, 1), (28, 3), (29, 1), (30, 1)] (by kernel_rfl) (by kernel_rfl) HM451.out ?_
          intro W476 hm477
          have HM478 := Lib.hid hm477
          clear hm477
          have Cb15 := Mem.cell HM478.out 0 rfl
          have Cb5 := Mem.cell HM478.out 13 rfl
          refine wpS_this [0, 1, 2, 3, 4] rfl (by kernel_rfl) (by simp only [pickL, nthL, List.cons_append, List.nil_append]; rfl) ?_
          repeat (go_big_quiet_step (fail))
          refine wpQuiet_nil ?_
          clear Cb15 Cb5
          refine wpS_skip (i := 5) (d := some 129) rfl (by rfl) rfl ?_
          simp only [Act.put, List.setIfInBounds_toArray, List.set_cons_succ, List.set_cons_zero]
          have Cb15 := Mem.cell HM478.out 0 rfl
          refine wpS_this [6, 7, 8] rfl (by kernel_rfl) (by simp only [pickL, nthL, List.cons_append, List.nil_append]; rfl) ?_
          repeat (go_big_quiet_step (fail))
          refine wpQuiet_nil ?_
          clear Cb15
          refine wpS_skip (i := 9) (d := some 133) rfl (by rfl) rfl ?_
          simp only [Act.put, List.setIfInBounds_toArray, List.set_cons_succ, List.set_cons_zero]
          have Cb15 := Mem.cell HM478.out 0 rfl
          have Cb5 := Mem.cell HM478.out 13 rfl
          refine wpS_this [10, 11, 12, 13, 14, 15, 16, 17, 18, 19, 20, 21] rfl (by kernel_rfl) (by simp only [pickL, nthL, List.cons_append, List.nil_append]; rfl) ?_
          repeat (go_big_quiet_step (fail))
          refine wpQuiet_nil ?_
          clear Cb15 Cb5
          have Cb15 := Mem.cell HM478.out 0 rfl
          refine wpS_stay [23] rfl (by kernel_rfl) (by simp only [pickL, nthL, List.cons_append, List.nil_append]; rfl) ?_
          repeat (go_big_quiet_step (fail))
          refine wpQuiet_nil ?_
          clear Cb15
          refine wpS_skip (i := 22) (d := some 146) rfl (by rfl) rfl ?_
          simp only [Act.put, List.setIfInBounds_toArray, List.set_cons_succ, List.set_cons_zero]
          refine wpS_skip (i := 24) (d := some 148) rfl (by rfl) rfl ?_
          simp only [Act.put, List.setIfInBounds_toArray, List.set_cons_succ, List.set_cons_zero]
          refine wpS_this [25, 26, 27] rfl (by kernel_rfl) (by simp only [pickL, nthL, List.cons_append, List.nil_append]; rfl) ?_
          repeat (go_big_quiet_step (fail))
          refine wpQuiet_nil ?_
          refine wpS_does0 (i := 28) (d := some 152) (rem := [_, _, _, _, _, _, _, _, _, _, _, _, _, _]) (out := [_, _, _, _, _, _, _, _, _, _, _, _, _, _]) rfl (by rfl) rfl Try.call9 (awake_d)  HM478.out [] rfl (covS_box 13 rfl (covS_box 12 rfl (covS_box 11 rfl (covS_box 9 rfl (covS_box 0 rfl covS_nil))))) rfl rfl ?_
          rintro W480 hm479 hg481
          have HM482 := Lib.hid hm479
          clear hm479
          simp only [Act.put, List.setIfInBounds_toArray, List.set_cons_succ, List.set_cons_zero]
          refine wpS_this [29, 30] rfl (by kernel_rfl) (by simp only [pickL, nthL, List.cons_append, List.nil_append]; rfl) ?_
          repeat (go_big_quiet_step (fail))
          refine wpQuiet_nil ?_
          refine wpS_nil ?_
          refine then_normal ?_
          refine wp_ret ?_
          refine bodyPost_ret (results_tmp rfl _ _ _) rfl ?_
          exact does_ret (Mem.only (M := [_]) HM482.out [2] rfl) rfl rfl

end Go.Proofs.Ytcdhipflfnafaaa
