/- Plans: PlanTwo. -/
import Derived.Test.YtcdhipflfnafaaaPlaD
namespace Go.Proofs.Ytcdhipflfnafaaa
open Go Go.RowKit Go.BigFrame

theorem next_ok2 {x : Pl} {n : Int} {t : List Int} {f : Pl} {e : Int} (h : nextP x n t = (f, e)) (he : e = 0) : mayP x = true ∧ nodeE n = true ∧ tgtL t = true ∧ x.1 ≠ 1000000 ∧ f = (x.1 + 1, n, t) := by
  rcases nextP_cases x n t with ⟨_, q⟩ | ⟨_, _, q⟩ | ⟨_, _, _, q⟩ | ⟨_, _, _, _, q⟩ | ⟨h1, h2, h3, h4, q⟩ <;> rw [h] at q <;> have q1 := (Prod.mk.inj q).1 <;> have q2 := (Prod.mk.inj q).2
  · omega
  · omega
  · omega
  · omega
  · exact ⟨h1, h2, h3, h4, q1⟩
set_option maxHeartbeats 4000000 in
set_option maxRecDepth 100000 in
theorem two_d (W0 : World) (va : Value) (a1 a2 : Int) (sa : List Int) (ha : SrcE elemI W0 va sa) (m : Int) (n : Int) (vt : Value) (st : List Int) (ht : SrcE elemI W0 vt st) (vq : Value) (sq : List Int) (hq : SrcE elemI W0 vq sq) : Does Try.prog 7 #[.agg #[.int .i64 a1, .int .i64 a2, va], .int .i64 m, .int .i64 n, vt, vq] [oldT W0] (.bool true) [oldT W0] := by
  intro w H hp
  have HM0 := Lib.hid (mem_refl hp)
  clear hp
  obtain ⟨pa, ca, rfl⟩ := row_form ha
  obtain ⟨pt, ct, rfl⟩ := row_form ht
  obtain ⟨pq, cq, rfl⟩ := row_form hq
  go_enter Try.func7, Try.ntmps7
  refine wp_seq ?_
  refine wp_region_N [(0, 3), (1, 1)] (by kernel_rfl) ?_
  refine wpS_boxA (i := 0) (dd := 5) rfl (by rfl) rfl rfl HM0.out covS_nil rfl ?_
  rintro b3 W2 hm1 -
  have HM4 := Lib.hid hm1
  clear hm1
  simp only [Act.put, List.setIfInBounds_toArray, List.set_cons_succ, List.set_cons_zero]
  refine wpS_this [1] rfl (by kernel_rfl) (by simp only [pickL, nthL, List.cons_append, List.nil_append]; rfl) ?_
  repeat (go_big_quiet_step (fail))
  refine wpQuiet_nil ?_
  refine wpS_nil ?_
  refine then_normal ?_
  refine wp_seq ?_
  refine wp_seq ?_
  rcases (show ¬ (sa.length ≤ 100) ∨ ((sa.length ≤ 100) ∧ ¬ st.length ≤ 100) ∨ ((sa.length ≤ 100) ∧ st.length ≤ 100 ∧ ¬ sq.length ≤ 100) ∨ ((sa.length ≤ 100) ∧ st.length ≤ 100 ∧ sq.length ≤ 100) from by omega) with hw | ⟨hw, wt⟩ | ⟨hw, wt, wq⟩ | ⟨hw, wt, wq⟩
  · have hfw : Hid (fewB [⟨a1, a2, pa, sa.length, ca⟩] = false) := Lib.hid ((few1 _).trans (decide_eq_false hw))
    refine wp_region_N [(0, 1), (1, 3), (2, 3), (3, 1), (4, 1), (5, 1), (6, 1), (7, 1), (8, 1), (9, 1), (10, 1), (11, 1), (12, 1), (13, 1)] (by kernel_rfl) ?_
    have Cb5 := Mem.cell HM4.out 0 rfl
    refine wpS_this [0] rfl (by kernel_rfl) (by simp only [pickL, nthL, List.cons_append, List.nil_append]; rfl) ?_
    repeat (go_big_quiet_step (fail))
    refine wpQuiet_nil ?_
    clear Cb5
    refine wpS_buildN elemP (i := 1) (dd := 17) (n := 1) (xs := [⟨a1, a2, pa, sa.length, ca⟩]) (cs := #[.int .i64 a1, .int .i64 a2, .slice pa sa.length ca]) rfl (by rfl) (fun _ => by kernel_rfl) rfl rfl HM4.out covS_nil rfl ?_
    rintro b7 W8 hm9 -
    have HM10 := Lib.hid hm9
    clear hm9
    simp only [Act.put, List.setIfInBounds_toArray, List.set_cons_succ, List.set_cons_zero]
    refine wpS_does1 (i := 2) (d := some 18) (rem := [_, _]) (out := [_, _, _]) rfl (by rfl) rfl Try.call8 (few_d (rowT elemP _ _) _ _ rowOwnE (Nat.le_of_ble_eq_true rfl)) rfl HM10.out [0] rfl covS_nil rfl rfl ?_
    rintro W12 hm11 -
    rw [hfw.out]
    have HM13 := Lib.hid hm11
    clear hm11
    simp only [Act.put, List.setIfInBounds_toArray, List.set_cons_succ, List.set_cons_zero]
    refine wpS_this [3, 4, 5, 6, 7, 8, 9, 10, 11, 12, 13] rfl (by kernel_rfl) (by simp only [pickL, nthL, List.cons_append, List.nil_append]; rfl) ?_
    repeat (go_big_quiet_step (fail))
    refine wpQuiet_nil ?_
    refine wpS_nil ?_
    refine then_normal ?_
    refine wp_cond_true rfl ?_
    refine wp_seq ?_
    refine wp_region_N [(0, 3), (1, 1)] (by kernel_rfl) ?_
    refine wpS_does0 (i := 0) (d := some 30) (rem := [_, _, _]) (out := [_, _, _]) rfl (by rfl) rfl Try.call9 (awake_d)  HM13.out [] rfl covS_nil rfl rfl ?_
    rintro W15 hm14 -
    have HM16 := Lib.hid hm14
    clear hm14
    simp only [Act.put, List.setIfInBounds_toArray, List.set_cons_succ, List.set_cons_zero]
    refine wpS_this [1] rfl (by kernel_rfl) (by simp only [pickL, nthL, List.cons_append, List.nil_append]; rfl) ?_
    repeat (go_big_quiet_step (fail))
    refine wpQuiet_nil ?_
    refine wpS_nil ?_
    refine then_normal ?_
    refine wp_ret ?_
    refine then_ret ?_
    refine bodyPost_ret (results_tmp rfl _ _ _) rfl ?_
    exact does_ret (Mem.only (M := [_]) HM16.out [2] rfl) rfl rfl
  · have hfw : Hid (fewB [⟨a1, a2, pa, sa.length, ca⟩] = true) := Lib.hid ((few1 _).trans (decide_eq_true hw))
    have gt : decide (100 < st.length) = true := decide_eq_true (by omega)
    have gt' : decide ((100 : Int) < (st.length : Int)) = true := decide_eq_true (by omega)
    refine wp_region_N [(0, 1), (1, 3), (2, 3), (3, 1), (4, 1), (5, 1), (6, 1), (7, 1), (8, 1), (9, 1), (10, 1), (11, 1), (12, 1), (13, 1)] (by kernel_rfl) ?_
    have Cb5 := Mem.cell HM4.out 0 rfl
    refine wpS_this [0] rfl (by kernel_rfl) (by simp only [pickL, nthL, List.cons_append, List.nil_append]; rfl) ?_
    repeat (go_big_quiet_step (fail))
    refine wpQuiet_nil ?_
    clear Cb5
    refine wpS_buildN elemP (i := 1) (dd := 17) (n := 1) (xs := [⟨a1, a2, pa, sa.length, ca⟩]) (cs := #[.int .i64 a1, .int .i64 a2, .slice pa sa.length ca]) rfl (by rfl) (fun _ => by kernel_rfl) rfl rfl HM4.out covS_nil rfl ?_
    rintro b19 W20 hm21 -
    have HM22 := Lib.hid hm21
    clear hm21
    simp only [Act.put, List.setIfInBounds_toArray, List.set_cons_succ, List.set_cons_zero]
    refine wpS_does1 (i := 2) (d := some 18) (rem := [_, _]) (out := [_, _, _]) rfl (by rfl) rfl Try.call8 (few_d (rowT elemP _ _) _ _ rowOwnE (Nat.le_of_ble_eq_true rfl)) rfl HM22.out [0] rfl covS_nil rfl rfl ?_
    rintro W24 hm23 -
    rw [hfw.out]
    have HM25 := Lib.hid hm23
    clear hm23
    simp only [Act.put, List.setIfInBounds_toArray, List.set_cons_succ, List.set_cons_zero]
    refine wpS_this [3, 4, 5, 6, 7, 8, 9, 10, 11, 12, 13] rfl (by kernel_rfl) (by simp only [pickL, nthL, List.cons_append, List.nil_append]; rfl) ?_
    repeat (go_big_quiet_step (fail))
    refine wpQuiet_nil ?_
    refine wpS_nil ?_
    refine then_normal ?_
    refine wp_cond_true rfl ?_
    refine wp_seq ?_
    refine wp_region_N [(0, 3), (1, 1)] (by kernel_rfl) ?_
    refine wpS_does0 (i := 0) (d := some 30) (rem := [_, _, _]) (out := [_, _, _]) rfl (by rfl) rfl Try.call9 (awake_d)  HM25.out [] rfl covS_nil rfl rfl ?_
    rintro W27 hm26 -
    have HM28 := Lib.hid hm26
    clear hm26
    simp only [Act.put, List.setIfInBounds_toArray, List.set_cons_succ, List.set_cons_zero]
    refine wpS_this [1] rfl (by kernel_rfl) (by simp only [pickL, nthL, List.cons_append, List.nil_append]; rfl) ?_
    repeat (go_big_quiet_step (fail))
    refine wpQuiet_nil ?_
    refine wpS_nil ?_
    refine then_normal ?_
    refine wp_ret ?_
    refine then_ret ?_
    refine bodyPost_ret (results_tmp rfl _ _ _) rfl ?_
    exact does_ret (Mem.only (M := [_]) HM28.out [2] rfl) rfl rfl
  · have hfw : Hid (fewB [⟨a1, a2, pa, sa.length, ca⟩] = true) := Lib.hid ((few1 _).trans (decide_eq_true hw))
    have gt : decide (100 < st.length) = false := decide_eq_false (by omega)
    have gt' : decide ((100 : Int) < (st.length : Int)) = false := decide_eq_false (by omega)
    have gq : decide (100 < sq.length) = true := decide_eq_true (by omega)
    have gq' : decide ((100 : Int) < (sq.length : Int)) = true := decide_eq_true (by omega)
    refine wp_region_N [(0, 1), (1, 3), (2, 3), (3, 1), (4, 1), (5, 1), (6, 1), (7, 1), (8, 1), (9, 1), (10, 1), (11, 1), (12, 1), (13, 1)] (by kernel_rfl) ?_
    have Cb5 := Mem.cell HM4.out 0 rfl
    refine wpS_this [0] rfl (by kernel_rfl) (by simp only [pickL, nthL, List.cons_append, List.nil_append]; rfl) ?_
    repeat (go_big_quiet_step (fail))
    refine wpQuiet_nil ?_
    clear Cb5
    refine wpS_buildN elemP (i := 1) (dd := 17) (n := 1) (xs := [⟨a1, a2, pa, sa.length, ca⟩]) (cs := #[.int .i64 a1, .int .i64 a2, .slice pa sa.length ca]) rfl (by rfl) (fun _ => by kernel_rfl) rfl rfl HM4.out covS_nil rfl ?_
    rintro b31 W32 hm33 -
    have HM34 := Lib.hid hm33
    clear hm33
    simp only [Act.put, List.setIfInBounds_toArray, List.set_cons_succ, List.set_cons_zero]
    refine wpS_does1 (i := 2) (d := some 18) (rem := [_, _]) (out := [_, _, _]) rfl (by rfl) rfl Try.call8 (few_d (rowT elemP _ _) _ _ rowOwnE (Nat.le_of_ble_eq_true rfl)) rfl HM34.out [0] rfl covS_nil rfl rfl ?_
    rintro W36 hm35 -
    rw [hfw.out]
    have HM37 := Lib.hid hm35
    clear hm35
    simp only [Act.put, List.setIfInBounds_toArray, List.set_cons_succ, List.set_cons_zero]
    refine wpS_this [3, 4, 5, 6, 7, 8, 9, 10, 11, 12, 13] rfl (by kernel_rfl) (by simp only [pickL, nthL, List.cons_append, List.nil_append]; rfl) ?_
    repeat (go_big_quiet_step (fail))
    refine wpQuiet_nil ?_
    refine wpS_nil ?_
    refine then_normal ?_
    refine wp_cond_true rfl ?_
    refine wp_seq ?_
    refine wp_region_N [(0, 3), (1, 1)] (by kernel_rfl) ?_
    refine wpS_does0 (i := 0) (d := some 30) (rem := [_, _, _]) (out := [_, _, _]) rfl (by rfl) rfl Try.call9 (awake_d)  HM37.out [] rfl covS_nil rfl rfl ?_
    rintro W39 hm38 -
    have HM40 := Lib.hid hm38
    clear hm38
    simp only [Act.put, List.setIfInBounds_toArray, List.set_cons_succ, List.set_cons_zero]
    refine wpS_this [1] rfl (by kernel_rfl) (by simp only [pickL, nthL, List.cons_append, List.nil_append]; rfl) ?_
    repeat (go_big_quiet_step (fail))
    refine wpQuiet_nil ?_
    refine wpS_nil ?_
    refine then_normal ?_
    refine wp_ret ?_
    refine then_ret ?_
    refine bodyPost_ret (results_tmp rfl _ _ _) rfl ?_
    exact does_ret (Mem.only (M := [_]) HM40.out [2] rfl) rfl rfl
  · have hfw : Hid (fewB [⟨a1, a2, pa, sa.length, ca⟩] = true) := Lib.hid ((few1 _).trans (decide_eq_true hw))
    have gt : decide (100 < st.length) = false := decide_eq_false (by omega)
    have gt' : decide ((100 : Int) < (st.length : Int)) = false := decide_eq_false (by omega)
    have gq : decide (100 < sq.length) = false := decide_eq_false (by omega)
    have gq' : decide ((100 : Int) < (sq.length : Int)) = false := decide_eq_false (by omega)
    have la : sa.length ≤ 1000 := by omega
    have lt : st.length ≤ 1000 := by omega
    have lq : sq.length ≤ 1000 := by omega
    refine wp_region_N [(0, 1), (1, 3), (2, 3), (3, 1), (4, 1), (5, 1), (6, 1), (7, 1), (8, 1), (9, 1), (10, 1), (11, 1), (12, 1), (13, 1)] (by kernel_rfl) ?_
    have Cb5 := Mem.cell HM4.out 0 rfl
    refine wpS_this [0] rfl (by kernel_rfl) (by simp only [pickL, nthL, List.cons_append, List.nil_append]; rfl) ?_
    repeat (go_big_quiet_step (fail))
    refine wpQuiet_nil ?_
    clear Cb5
    refine wpS_buildN elemP (i := 1) (dd := 17) (n := 1) (xs := [⟨a1, a2, pa, sa.length, ca⟩]) (cs := #[.int .i64 a1, .int .i64 a2, .slice pa sa.length ca]) rfl (by rfl) (fun _ => by kernel_rfl) rfl rfl HM4.out covS_nil rfl ?_
    rintro b43 W44 hm45 -
    have HM46 := Lib.hid hm45
    clear hm45
    simp only [Act.put, List.setIfInBounds_toArray, List.set_cons_succ, List.set_cons_zero]
    refine wpS_does1 (i := 2) (d := some 18) (rem := [_, _]) (out := [_, _, _]) rfl (by rfl) rfl Try.call8 (few_d (rowT elemP _ _) _ _ rowOwnE (Nat.le_of_ble_eq_true rfl)) rfl HM46.out [0] rfl covS_nil rfl rfl ?_
    rintro W48 hm47 -
    rw [hfw.out]
    have HM49 := Lib.hid hm47
    clear hm47
    simp only [Act.put, List.setIfInBounds_toArray, List.set_cons_succ, List.set_cons_zero]
    refine wpS_this [3, 4, 5, 6, 7, 8, 9, 10, 11, 12, 13] rfl (by kernel_rfl) (by simp only [pickL, nthL, List.cons_append, List.nil_append]; rfl) ?_
    repeat (go_big_quiet_step (fail))
    refine wpQuiet_nil ?_
    refine wpS_nil ?_
    refine then_normal ?_
    refine wp_cond_false rfl ?_
    refine wp_skip ?_
    refine then_normal ?_
    refine wp_seq ?_
    obtain ⟨u1, u2, su, ue, hu'⟩ := next_letters (nextP (a1, a2, sa) m st)
    have hu := Lib.hid hu'
    clear hu'
    obtain ⟨v1, v2, sv, ve, hv'⟩ := next_letters (nextP (a1, a2, sa) n sq)
    have hv := Lib.hid hv'
    clear hv'
    refine wp_region_N [(0, 1), (1, 1), (2, 1), (3, 3), (4, 1), (5, 1), (6, 1), (7, 3), (8, 3), (9, 1)] (by kernel_rfl) ?_
    have Cb5 := Mem.cell HM49.out 1 rfl
    refine wpS_this [0, 1, 2] rfl (by kernel_rfl) (by simp only [pickL, nthL, List.cons_append, List.nil_append]; rfl) ?_
    repeat (go_big_quiet_step (fail))
    refine wpQuiet_nil ?_
    clear Cb5
    refine wpS_doesU3 (i := 3) (d := some 35) (rem := [_, _]) rfl (by rfl) rfl Try.call10 (next_d (oldT W0) _ a1 a2 sa (srcOld ha) la m _ st (srcOld ht) lt u1 u2 su ue hu.out) rfl rfl rfl HM49.out [2] rfl covS_nil (fun _ => rfl) rfl ?_
    rintro u52 W51 hm50 -
    obtain ⟨pu, cu, rfl, hm50q⟩ := Mem.next rfl hm50
    clear hm50
    have HM53 := Lib.hid hm50q
    clear hm50q
    simp only [Act.put, List.setIfInBounds_toArray, List.set_cons_succ, List.set_cons_zero]
    refine wpS_this [4, 5, 6] rfl (by kernel_rfl) (by simp only [pickL, nthL, List.cons_append, List.nil_append]; rfl) ?_
    repeat (go_big_quiet_step (fail))
    refine wpQuiet_nil ?_
    refine wpS_alloc (i := 7) (dd := 11) (z := .agg #[.int .i64 0, .int .i64 0, .slice none 0 0]) (cs := #[.int .i64 0, .int .i64 0, .slice none 0 0]) rfl (by rfl) rfl (by kernel_rfl) rfl HM53.out covS_nil rfl ?_
    rintro b56 W55 hm54 -
    have HM57 := Lib.hid hm54
    clear hm54
    simp only [Act.put, List.setIfInBounds_toArray, List.set_cons_succ, List.set_cons_zero]
    refine wpS_storeA (i := 8) (L2 := [_, _, _, _]) (cs' := [_, _, _]) rfl (by rfl) rfl rfl rfl (by kernel_rfl) (by rfl) HM57.out 0 rfl rfl rfl rfl covS_nil rfl ?_
    rintro W59 hm58 -
    have HM60 := Lib.hid hm58
    clear hm58
    refine wpS_this [9] rfl (by kernel_rfl) (by simp only [pickL, nthL, List.cons_append, List.nil_append]; rfl) ?_
    repeat (go_big_quiet_step (fail))
    refine wpQuiet_nil ?_
    refine wpS_nil ?_
    refine then_normal ?_
    refine wp_seq ?_
    refine wp_region_N [(0, 1), (1, 1), (2, 1), (3, 3), (4, 1), (5, 1), (6, 1), (7, 3), (8, 3), (9, 1)] (by kernel_rfl) ?_
    have Cb5 := Mem.cell HM60.out 4 rfl
    refine wpS_this [0, 1, 2] rfl (by kernel_rfl) (by simp only [pickL, nthL, List.cons_append, List.nil_append]; rfl) ?_
    repeat (go_big_quiet_step (fail))
    refine wpQuiet_nil ?_
    clear Cb5
    refine wpS_doesU3 (i := 3) (d := some 42) (rem := [_, _, _, _]) rfl (by rfl) rfl Try.call10 (next_d (oldT W0) _ a1 a2 sa (srcOld ha) la n _ sq (srcOld hq) lq v1 v2 sv ve hv.out) rfl rfl rfl HM60.out [2] rfl covS_nil (fun _ => rfl) rfl ?_
    rintro u63 W62 hm61 -
    obtain ⟨pv, cv, rfl, hm61q⟩ := Mem.next rfl hm61
    clear hm61
    have HM64 := Lib.hid hm61q
    clear hm61q
    simp only [Act.put, List.setIfInBounds_toArray, List.set_cons_succ, List.set_cons_zero]
    refine wpS_this [4, 5, 6] rfl (by kernel_rfl) (by simp only [pickL, nthL, List.cons_append, List.nil_append]; rfl) ?_
    repeat (go_big_quiet_step (fail))
    refine wpQuiet_nil ?_
    refine wpS_alloc (i := 7) (dd := 13) (z := .agg #[.int .i64 0, .int .i64 0, .slice none 0 0]) (cs := #[.int .i64 0, .int .i64 0, .slice none 0 0]) rfl (by rfl) rfl (by kernel_rfl) rfl HM64.out covS_nil rfl ?_
    rintro b67 W66 hm65 -
    have HM68 := Lib.hid hm65
    clear hm65
    simp only [Act.put, List.setIfInBounds_toArray, List.set_cons_succ, List.set_cons_zero]
    refine wpS_storeA (i := 8) (L2 := [_, _, _, _, _, _]) (cs' := [_, _, _]) rfl (by rfl) rfl rfl rfl (by kernel_rfl) (by rfl) HM68.out 0 rfl rfl rfl rfl covS_nil rfl ?_
    rintro W70 hm69 -
    have HM71 := Lib.hid hm69
    clear hm69
    refine wpS_this [9] rfl (by kernel_rfl) (by simp only [pickL, nthL, List.cons_append, List.nil_append]; rfl) ?_
    repeat (go_big_quiet_step (fail))
    refine wpQuiet_nil ?_
    refine wpS_nil ?_
    refine then_normal ?_
    refine wp_seq ?_
    refine wp_seq ?_
    rcases (show ue ≠ 0 ∨ (ue = 0 ∧ ve ≠ 0) ∨ (ue = 0 ∧ ve = 0) from by omega) with h1 | ⟨h1, h2⟩ | ⟨h1, h2⟩
    · have gu : (ue != 0) = true := bne_iff_ne.2 h1
      clear h1
      refine wp_region_N [(0, 1), (1, 1), (2, 1), (3, 1), (4, 1), (5, 1)] (by kernel_rfl) ?_
      refine wpS_this [0, 1, 2, 3, 4, 5] rfl (by kernel_rfl) (by simp only [pickL, nthL, List.cons_append, List.nil_append]; rfl) ?_
      repeat (go_big_quiet_step (fail))
      refine wpQuiet_nil ?_
      refine wpS_nil ?_
      refine then_normal ?_
      refine wp_cond_true rfl ?_
      refine wp_seq ?_
      refine wp_region_N [(0, 3), (1, 1)] (by kernel_rfl) ?_
      refine wpS_does0 (i := 0) (d := some 51) (rem := [_, _, _, _, _, _, _]) (out := [_, _, _, _, _, _, _]) rfl (by rfl) rfl Try.call9 (awake_d)  HM71.out [] rfl covS_nil rfl rfl ?_
      rintro W73 hm72 -
      have HM74 := Lib.hid hm72
      clear hm72
      simp only [Act.put, List.setIfInBounds_toArray, List.set_cons_succ, List.set_cons_zero]
      refine wpS_this [1] rfl (by kernel_rfl) (by simp only [pickL, nthL, List.cons_append, List.nil_append]; rfl) ?_
      repeat (go_big_quiet_step (fail))
      refine wpQuiet_nil ?_
      refine wpS_nil ?_
      refine then_normal ?_
      refine wp_ret ?_
      refine then_ret ?_
      refine bodyPost_ret (results_tmp rfl _ _ _) rfl ?_
      exact does_ret (Mem.only (M := [_]) HM74.out [2] rfl) rfl rfl
    · have gu : (ue != 0) = false := by simpa using h1
      have gv : (ve != 0) = true := bne_iff_ne.2 h2
      clear h1 h2
      refine wp_region_N [(0, 1), (1, 1), (2, 1), (3, 1), (4, 1), (5, 1)] (by kernel_rfl) ?_
      refine wpS_this [0, 1, 2, 3, 4, 5] rfl (by kernel_rfl) (by simp only [pickL, nthL, List.cons_append, List.nil_append]; rfl) ?_
      repeat (go_big_quiet_step (fail))
      refine wpQuiet_nil ?_
      refine wpS_nil ?_
      refine then_normal ?_
      refine wp_cond_true rfl ?_
      refine wp_seq ?_
      refine wp_region_N [(0, 3), (1, 1)] (by kernel_rfl) ?_
      refine wpS_does0 (i := 0) (d := some 51) (rem := [_, _, _, _, _, _, _]) (out := [_, _, _, _, _, _, _]) rfl (by rfl) rfl Try.call9 (awake_d)  HM71.out [] rfl covS_nil rfl rfl ?_
      rintro W76 hm75 -
      have HM77 := Lib.hid hm75
      clear hm75
      simp only [Act.put, List.setIfInBounds_toArray, List.set_cons_succ, List.set_cons_zero]
      refine wpS_this [1] rfl (by kernel_rfl) (by simp only [pickL, nthL, List.cons_append, List.nil_append]; rfl) ?_
      repeat (go_big_quiet_step (fail))
      refine wpQuiet_nil ?_
      refine wpS_nil ?_
      refine then_normal ?_
      refine wp_ret ?_
      refine then_ret ?_
      refine bodyPost_ret (results_tmp rfl _ _ _) rfl ?_
      exact does_ret (Mem.only (M := [_]) HM77.out [2] rfl) rfl rfl
    · have heu := h1
      have hev := h2
      clear h1 h2
      have hok := next_ok2 hu.out heu
      obtain ⟨ho1, ho2, ho3, ho4, ho5⟩ := hok
      simp only [Prod.mk.injEq] at ho5
      obtain ⟨r1, r2, r3⟩ := ho5
      subst u1
      subst u2
      subst su
      subst ue
      have hbd := mayP_le ho1
      have hb0 : 0 ≤ a1 := hbd.1
      have hb1 : a1 < 1000000 := by have h1 : a1 ≤ 1000000 := hbd.2; have h2 : a1 ≠ 1000000 := ho4; omega
      clear hbd
      clear ho1 ho2 ho3 ho4 hb0 hb1
      have hok := next_ok2 hv.out hev
      obtain ⟨ho1, ho2, ho3, ho4, ho5⟩ := hok
      simp only [Prod.mk.injEq] at ho5
      obtain ⟨r1, r2, r3⟩ := ho5
      subst v1
      subst v2
      subst sv
      subst ve
      have hbd := mayP_le ho1
      have hb0 : 0 ≤ a1 := hbd.1
      have hb1 : a1 < 1000000 := by have h1 : a1 ≤ 1000000 := hbd.2; have h2 : a1 ≠ 1000000 := ho4; omega
      clear hbd
      clear ho1 ho2 ho3 ho4
      try clear heu
      try clear hev
      refine wp_region_N [(0, 1), (1, 1), (2, 1), (3, 1), (4, 1), (5, 1)] (by kernel_rfl) ?_
      refine wpS_this [0, 1, 2, 3, 4, 5] rfl (by kernel_rfl) (by simp only [pickL, nthL, List.cons_append, List.nil_append]; rfl) ?_
      repeat (go_big_quiet_step (fail))
      refine wpQuiet_nil ?_
      refine wpS_nil ?_
      refine then_normal ?_
      refine wp_cond_false rfl ?_
      refine wp_skip ?_
      refine then_normal ?_
      refine wp_seq ?_
      rcases (show m < n ∨ n < m ∨ m = n from by omega) with h | h | h
      · have hvu : cmpP (a1 + 1, n, sq) (a1 + 1, m, st) = 1 := cmpP_b rfl h
        have hj : Hid (joinP (a1 + 1, m, st) (a1 + 1, n, sq) = (a1 + 1, n, sq)) := Lib.hid (if_pos (by rw [hvu]; decide))
        have gne : (m == n) = false := beq_eq_false_iff_ne.2 (by omega)
        have gju : Hid (decide (((a1 + 1, n, sq) : Pl) = (a1 + 1, m, st)) = false) := Lib.hid (decide_eq_false fun h1 => by have h2 := congrArg (fun z : Pl => z.2.1) h1; dsimp only at h2; omega)
        have ggt : decide (n < m) = false := decide_eq_false (by omega)
        have gmm : (n == if m < n then n else m) = true := by rw [if_pos h]; exact beq_self_eq_true _
        clear hvu h
        refine wp_region_N [(0, 1), (1, 1), (2, 3), (3, 3), (4, 3)] (by kernel_rfl) ?_
        have Cb11 := Mem.cell HM71.out 3 rfl
        have Cb13 := Mem.cell HM71.out 0 rfl
        refine wpS_this [0, 1] rfl (by kernel_rfl) (by simp only [pickL, nthL, List.cons_append, List.nil_append]; rfl) ?_
        repeat (go_big_quiet_step (fail))
        refine wpQuiet_nil ?_
        clear Cb11 Cb13
        refine wpS_doesU2 (i := 2) (d := some 54) (rem := [_, _, _, _, _]) rfl (by rfl) rfl Try.call17 (DoesU.ofList (join_d (listT [_, _]) _ (a1 + 1) m st (srcL 0 rfl rowT_reads) lt _ (a1 + 1) n sq (srcL 1 rfl rowT_reads) lq (a1 + 1) n sq hj.out)) rfl rfl HM71.out [4, 1] rfl covS_nil (fun _ => rfl) rfl ?_
        rintro u80 W79 hm78 -
        obtain ⟨pj, cj, rfl, hm78q⟩ := Mem.plan rfl hm78
        clear hm78
        have HM81 := Lib.hid hm78q
        clear hm78q
        simp only [Act.put, List.setIfInBounds_toArray, List.set_cons_succ, List.set_cons_zero]
        refine wpS_alloc (i := 3) (dd := 15) (z := .agg #[.int .i64 0, .int .i64 0, .slice none 0 0]) (cs := #[.int .i64 0, .int .i64 0, .slice none 0 0]) rfl (by rfl) rfl (by kernel_rfl) rfl HM81.out covS_nil rfl ?_
        rintro b84 W83 hm82 -
        have HM85 := Lib.hid hm82
        clear hm82
        simp only [Act.put, List.setIfInBounds_toArray, List.set_cons_succ, List.set_cons_zero]
        refine wpS_storeA (i := 4) (L2 := [_, _, _, _, _, _, _, _]) (cs' := [_, _, _]) rfl (by rfl) rfl rfl rfl (by kernel_rfl) (by rfl) HM85.out 0 rfl rfl rfl rfl covS_nil rfl ?_
        rintro W87 hm86 -
        have HM88 := Lib.hid hm86
        clear hm86
        refine wpS_nil ?_
        refine then_normal ?_
        refine wp_seq ?_
        have gaa : (a1 + 1 == a1 + 1) = true := beq_self_eq_true _
        refine wp_region_M (fun k => k ∈ ([b3, b56, b67, b84] : List Nat)) [(0, 1), (1, 1), (2, 1), (3, 1), (4, 1), (5, 1), (6, 1), (7, 1), (8, 1), (9, 1), (10, 1), (11, 1), (12, 1), (13, 1), (14, 1), (15, 2), (16, 1), (17, 1), (18, 3), (19, 3), (20, 1), (21, 1), (22, 1), (23, 1), (24, 1), (25, 1), (26, 1), (27, 1), (29, 0), (30, 0), (31, 0), (28, 3), (32, 1), (33, 1), (34, 1), (35, 1), (36, 3), (37, 1), (38, 1)] (by kernel_rfl) (by kernel_rfl) HM88.out ?_
        intro W89 hm90
        have HM91 := Lib.hid hm90
        clear hm90
        have Cb15 := Mem.cell HM91.out 0 rfl
        have Cb5 := Mem.cell HM91.out 8 rfl
        refine wpS_this [0, 1, 2, 3, 4, 5, 6, 7, 8, 9, 10, 11, 12, 13, 14] rfl (by kernel_rfl) (by simp only [pickL, nthL, List.cons_append, List.nil_append]; rfl) ?_
        repeat (go_big_quiet_step (fail))
        refine wpQuiet_nil ?_
        clear Cb15 Cb5
        have Cb15 := Mem.cell HM91.out 0 rfl
        refine wpS_stay [15] rfl (by kernel_rfl) (by simp only [pickL, nthL, List.cons_append, List.nil_append]; rfl) ?_
        repeat (go_big_quiet_step (fail))
        refine wpQuiet_nil ?_
        clear Cb15
        have Cb13 := Mem.cell HM91.out 4 rfl
        have Cb11 := Mem.cell HM91.out 6 rfl
        refine wpS_this [16, 17] rfl (by kernel_rfl) (by simp only [pickL, nthL, List.cons_append, List.nil_append]; rfl) ?_
        repeat (go_big_quiet_step (fail))
        refine wpQuiet_nil ?_
        clear Cb13 Cb11
        refine wpS_doesU2 (i := 18) (d := some 73) (rem := [_, _, _, _, _, _, _]) rfl (by rfl) rfl Try.call17 (DoesU.ofList (join_d (listT [_, _]) _ (a1 + 1) n sq (srcL 1 rfl rowT_reads) lq _ (a1 + 1) m st (srcL 0 rfl rowT_reads) lt (a1 + 1) n sq ((joinP_comm _ _).trans hj.out))) rfl rfl HM91.out [2, 2] rfl (covS_box 6 rfl (covS_box 4 rfl (covS_box 2 rfl (covS_box 0 rfl covS_nil)))) (fun _ => rfl) rfl ?_
        rintro u95 W93 hm92 hg94
        obtain ⟨pk, ck, rfl, hm92q⟩ := Mem.plan rfl hm92
        clear hm92
        have HM96 := Lib.hid hm92q
        clear hm92q
        simp only [Act.put, List.setIfInBounds_toArray, List.set_cons_succ, List.set_cons_zero]
        refine wpS_does2 (i := 19) (d := some 74) (rem := [_, _, _, _, _, _, _, _]) (out := [_, _, _, _, _, _, _, _, _, _]) rfl (by rfl) rfl Try.call16 (Does.ofList (same_d (listT [_, _]) _ (a1 + 1) n sq (srcL 0 rfl rowT_reads) lq _ (a1 + 1) n sq (srcL 1 rfl rowT_reads) lq)) rfl rfl HM96.out [4, 0] rfl (covS_box 7 rfl (covS_box 5 rfl (covS_box 3 rfl (covS_box 2 rfl covS_nil)))) rfl rfl ?_
        rintro W98 hm97 hg99
        rw [same_self]
        have HM100 := Lib.hid hm97
        clear hm97
        simp only [Act.put, List.setIfInBounds_toArray, List.set_cons_succ, List.set_cons_zero]
        have Cb15 := Mem.cell HM100.out 4 rfl
        have Cb11 := Mem.cell HM100.out 7 rfl
        refine wpS_this [20, 21, 22, 23, 24, 25, 26, 27] rfl (by kernel_rfl) (by simp only [pickL, nthL, List.cons_append, List.nil_append]; rfl) ?_
        repeat (go_big_quiet_step (fail))
        refine wpQuiet_nil ?_
        clear Cb15 Cb11
        refine wpS_all [29, 30, 31] rfl (by kernel_rfl) (by simp only [pickL, nthL, List.cons_append, List.nil_append]; rfl) ?_
        repeat (go_big_quiet_step (fail))
        refine wpQuiet_nil ?_
        refine wpS_does2 (i := 28) (d := some 83) (rem := [_, _, _, _, _, _, _, _]) (out := [_, _, _, _, _, _, _, _, _, _]) rfl (by rfl) rfl Try.call16 (Does.ofList (same_d (listT [_, _]) _ (a1 + 1) n sq (srcL 0 rfl rowT_reads) lq _ (a1 + 1) m st (srcL 1 rfl rowT_reads) lt)) rfl rfl HM100.out [0, 1] rfl (covS_box 7 rfl (covS_box 5 rfl (covS_box 3 rfl (covS_box 2 rfl covS_nil)))) rfl rfl ?_
        rintro W102 hm101 hg103
        rw [gju.out]
        have HM104 := Lib.hid hm101
        clear hm101
        simp only [Act.put, List.setIfInBounds_toArray, List.set_cons_succ, List.set_cons_zero]
        refine wpS_this [32, 33, 34, 35] rfl (by kernel_rfl) (by simp only [pickL, nthL, List.cons_append, List.nil_append]; rfl) ?_
        repeat (go_big_quiet_step (fail))
        refine wpQuiet_nil ?_
        refine wpS_does0 (i := 36) (d := some 91) (rem := [_, _, _, _, _, _, _, _, _, _]) (out := [_, _, _, _, _, _, _, _, _, _]) rfl (by rfl) rfl Try.call9 (awake_d)  HM104.out [] rfl (covS_box 9 rfl (covS_box 7 rfl (covS_box 5 rfl (covS_box 4 rfl covS_nil)))) rfl rfl ?_
        rintro W106 hm105 hg107
        have HM108 := Lib.hid hm105
        clear hm105
        simp only [Act.put, List.setIfInBounds_toArray, List.set_cons_succ, List.set_cons_zero]
        refine wpS_this [37, 38] rfl (by kernel_rfl) (by simp only [pickL, nthL, List.cons_append, List.nil_append]; rfl) ?_
        repeat (go_big_quiet_step (fail))
        refine wpQuiet_nil ?_
        refine wpS_nil ?_
        refine then_normal ?_
        refine wp_ret ?_
        refine bodyPost_ret (results_tmp rfl _ _ _) rfl ?_
        exact does_ret (Mem.only (M := [_]) HM108.out [6] rfl) rfl rfl
      · have huv : cmpP (a1 + 1, m, st) (a1 + 1, n, sq) = 1 := cmpP_b rfl h
        have hj : Hid (joinP (a1 + 1, m, st) (a1 + 1, n, sq) = (a1 + 1, m, st)) := Lib.hid (joinC_left (by rw [cmpP_cmp.neg, huv]; decide))
        have gne : (m == n) = false := beq_eq_false_iff_ne.2 (by omega)
        have gju : Hid (decide (((a1 + 1, m, st) : Pl) = (a1 + 1, m, st)) = true) := Lib.hid (same_self _)
        have ggt : decide (n < m) = true := decide_eq_true (by omega)
        have gmm : (m == if m < n then n else m) = true := by rw [if_neg (by omega)]; exact beq_self_eq_true _
        clear huv h
        refine wp_region_N [(0, 1), (1, 1), (2, 3), (3, 3), (4, 3)] (by kernel_rfl) ?_
        have Cb11 := Mem.cell HM71.out 3 rfl
        have Cb13 := Mem.cell HM71.out 0 rfl
        refine wpS_this [0, 1] rfl (by kernel_rfl) (by simp only [pickL, nthL, List.cons_append, List.nil_append]; rfl) ?_
        repeat (go_big_quiet_step (fail))
        refine wpQuiet_nil ?_
        clear Cb11 Cb13
        refine wpS_doesU2 (i := 2) (d := some 54) (rem := [_, _, _, _, _]) rfl (by rfl) rfl Try.call17 (DoesU.ofList (join_d (listT [_, _]) _ (a1 + 1) m st (srcL 0 rfl rowT_reads) lt _ (a1 + 1) n sq (srcL 1 rfl rowT_reads) lq (a1 + 1) m st hj.out)) rfl rfl HM71.out [4, 1] rfl covS_nil (fun _ => rfl) rfl ?_
        rintro u111 W110 hm109 -
        obtain ⟨pj, cj, rfl, hm109q⟩ := Mem.plan rfl hm109
        clear hm109
        have HM112 := Lib.hid hm109q
        clear hm109q
        simp only [Act.put, List.setIfInBounds_toArray, List.set_cons_succ, List.set_cons_zero]
        refine wpS_alloc (i := 3) (dd := 15) (z := .agg #[.int .i64 0, .int .i64 0, .slice none 0 0]) (cs := #[.int .i64 0, .int .i64 0, .slice none 0 0]) rfl (by rfl) rfl (by kernel_rfl) rfl HM112.out covS_nil rfl ?_
        rintro b115 W114 hm113 -
        have HM116 := Lib.hid hm113
        clear hm113
        simp only [Act.put, List.setIfInBounds_toArray, List.set_cons_succ, List.set_cons_zero]
        refine wpS_storeA (i := 4) (L2 := [_, _, _, _, _, _, _, _]) (cs' := [_, _, _]) rfl (by rfl) rfl rfl rfl (by kernel_rfl) (by rfl) HM116.out 0 rfl rfl rfl rfl covS_nil rfl ?_
        rintro W118 hm117 -
        have HM119 := Lib.hid hm117
        clear hm117
        refine wpS_nil ?_
        refine then_normal ?_
        refine wp_seq ?_
        have gaa : (a1 + 1 == a1 + 1) = true := beq_self_eq_true _
        refine wp_region_M (fun k => k ∈ ([b3, b56, b67, b115] : List Nat)) [(0, 1), (1, 1), (2, 1), (3, 1), (4, 1), (5, 1), (6, 1), (7, 1), (8, 1), (9, 1), (10, 1), (11, 1), (12, 1), (13, 1), (14, 1), (15, 2), (16, 1), (17, 1), (18, 3), (19, 3), (20, 1), (21, 1), (22, 1), (23, 1), (24, 1), (25, 1), (26, 1), (27, 1), (29, 0), (30, 0), (31, 0), (28, 3), (32, 1), (33, 1), (34, 1), (35, 1), (36, 3), (37, 1), (38, 1)] (by kernel_rfl) (by kernel_rfl) HM119.out ?_
        intro W120 hm121
        have HM122 := Lib.hid hm121
        clear hm121
        have Cb15 := Mem.cell HM122.out 0 rfl
        have Cb5 := Mem.cell HM122.out 8 rfl
        refine wpS_this [0, 1, 2, 3, 4, 5, 6, 7, 8, 9, 10, 11, 12, 13, 14] rfl (by kernel_rfl) (by simp only [pickL, nthL, List.cons_append, List.nil_append]; rfl) ?_
        repeat (go_big_quiet_step (fail))
        refine wpQuiet_nil ?_
        clear Cb15 Cb5
        have Cb15 := Mem.cell HM122.out 0 rfl
        refine wpS_stay [15] rfl (by kernel_rfl) (by simp only [pickL, nthL, List.cons_append, List.nil_append]; rfl) ?_
        repeat (go_big_quiet_step (fail))
        refine wpQuiet_nil ?_
        clear Cb15
        have Cb13 := Mem.cell HM122.out 4 rfl
        have Cb11 := Mem.cell HM122.out 6 rfl
        refine wpS_this [16, 17] rfl (by kernel_rfl) (by simp only [pickL, nthL, List.cons_append, List.nil_append]; rfl) ?_
        repeat (go_big_quiet_step (fail))
        refine wpQuiet_nil ?_
        clear Cb13 Cb11
        refine wpS_doesU2 (i := 18) (d := some 73) (rem := [_, _, _, _, _, _, _]) rfl (by rfl) rfl Try.call17 (DoesU.ofList (join_d (listT [_, _]) _ (a1 + 1) n sq (srcL 1 rfl rowT_reads) lq _ (a1 + 1) m st (srcL 0 rfl rowT_reads) lt (a1 + 1) m st ((joinP_comm _ _).trans hj.out))) rfl rfl HM122.out [2, 2] rfl (covS_box 6 rfl (covS_box 4 rfl (covS_box 2 rfl (covS_box 0 rfl covS_nil)))) (fun _ => rfl) rfl ?_
        rintro u126 W124 hm123 hg125
        obtain ⟨pk, ck, rfl, hm123q⟩ := Mem.plan rfl hm123
        clear hm123
        have HM127 := Lib.hid hm123q
        clear hm123q
        simp only [Act.put, List.setIfInBounds_toArray, List.set_cons_succ, List.set_cons_zero]
        refine wpS_does2 (i := 19) (d := some 74) (rem := [_, _, _, _, _, _, _, _]) (out := [_, _, _, _, _, _, _, _, _, _]) rfl (by rfl) rfl Try.call16 (Does.ofList (same_d (listT [_, _]) _ (a1 + 1) m st (srcL 0 rfl rowT_reads) lt _ (a1 + 1) m st (srcL 1 rfl rowT_reads) lt)) rfl rfl HM127.out [4, 0] rfl (covS_box 7 rfl (covS_box 5 rfl (covS_box 3 rfl (covS_box 2 rfl covS_nil)))) rfl rfl ?_
        rintro W129 hm128 hg130
        rw [same_self]
        have HM131 := Lib.hid hm128
        clear hm128
        simp only [Act.put, List.setIfInBounds_toArray, List.set_cons_succ, List.set_cons_zero]
        have Cb15 := Mem.cell HM131.out 4 rfl
        have Cb11 := Mem.cell HM131.out 7 rfl
        refine wpS_this [20, 21, 22, 23, 24, 25, 26, 27] rfl (by kernel_rfl) (by simp only [pickL, nthL, List.cons_append, List.nil_append]; rfl) ?_
        repeat (go_big_quiet_step (fail))
        refine wpQuiet_nil ?_
        clear Cb15 Cb11
        refine wpS_all [29, 30, 31] rfl (by kernel_rfl) (by simp only [pickL, nthL, List.cons_append, List.nil_append]; rfl) ?_
        repeat (go_big_quiet_step (fail))
        refine wpQuiet_nil ?_
        refine wpS_does2 (i := 28) (d := some 83) (rem := [_, _, _, _, _, _, _, _]) (out := [_, _, _, _, _, _, _, _, _, _]) rfl (by rfl) rfl Try.call16 (Does.ofList (same_d (listT [_, _]) _ (a1 + 1) m st (srcL 0 rfl rowT_reads) lt _ (a1 + 1) m st (srcL 1 rfl rowT_reads) lt)) rfl rfl HM131.out [0, 1] rfl (covS_box 7 rfl (covS_box 5 rfl (covS_box 3 rfl (covS_box 2 rfl covS_nil)))) rfl rfl ?_
        rintro W133 hm132 hg134
        rw [gju.out]
        have HM135 := Lib.hid hm132
        clear hm132
        simp only [Act.put, List.setIfInBounds_toArray, List.set_cons_succ, List.set_cons_zero]
        refine wpS_this [32, 33, 34, 35] rfl (by kernel_rfl) (by simp only [pickL, nthL, List.cons_append, List.nil_append]; rfl) ?_
        repeat (go_big_quiet_step (fail))
        refine wpQuiet_nil ?_
        refine wpS_does0 (i := 36) (d := some 91) (rem := [_, _, _, _, _, _, _, _, _, _]) (out := [_, _, _, _, _, _, _, _, _, _]) rfl (by rfl) rfl Try.call9 (awake_d)  HM135.out [] rfl (covS_box 9 rfl (covS_box 7 rfl (covS_box 5 rfl (covS_box 4 rfl covS_nil)))) rfl rfl ?_
        rintro W137 hm136 hg138
        have HM139 := Lib.hid hm136
        clear hm136
        simp only [Act.put, List.setIfInBounds_toArray, List.set_cons_succ, List.set_cons_zero]
        refine wpS_this [37, 38] rfl (by kernel_rfl) (by simp only [pickL, nthL, List.cons_append, List.nil_append]; rfl) ?_
        repeat (go_big_quiet_step (fail))
        refine wpQuiet_nil ?_
        refine wpS_nil ?_
        refine then_normal ?_
        refine wp_ret ?_
        refine bodyPost_ret (results_tmp rfl _ _ _) rfl ?_
        exact does_ret (Mem.only (M := [_]) HM139.out [6] rfl) rfl rfl
      · subst h
        obtain ⟨sj, hj', hjl⟩ : ∃ sj, joinP (a1 + 1, m, st) (a1 + 1, m, sq) = (a1 + 1, m, sj) ∧ sj.length ≤ 1000 := by
            rcases joinP_or (a1 + 1, m, st) (a1 + 1, m, sq) with h | h
            · exact ⟨st, h, lt⟩
            · exact ⟨sq, h, lq⟩
        have hj := Lib.hid hj'
        clear hj'
        have gne : (m == m) = true := beq_self_eq_true _
        refine wp_region_N [(0, 1), (1, 1), (2, 3), (3, 3), (4, 3)] (by kernel_rfl) ?_
        have Cb11 := Mem.cell HM71.out 3 rfl
        have Cb13 := Mem.cell HM71.out 0 rfl
        refine wpS_this [0, 1] rfl (by kernel_rfl) (by simp only [pickL, nthL, List.cons_append, List.nil_append]; rfl) ?_
        repeat (go_big_quiet_step (fail))
        refine wpQuiet_nil ?_
        clear Cb11 Cb13
        refine wpS_doesU2 (i := 2) (d := some 54) (rem := [_, _, _, _, _]) rfl (by rfl) rfl Try.call17 (DoesU.ofList (join_d (listT [_, _]) _ (a1 + 1) m st (srcL 0 rfl rowT_reads) lt _ (a1 + 1) m sq (srcL 1 rfl rowT_reads) lq (a1 + 1) m sj hj.out)) rfl rfl HM71.out [4, 1] rfl covS_nil (fun _ => rfl) rfl ?_
        rintro u142 W141 hm140 -
        obtain ⟨pj, cj, rfl, hm140q⟩ := Mem.plan rfl hm140
        clear hm140
        have HM143 := Lib.hid hm140q
        clear hm140q
        simp only [Act.put, List.setIfInBounds_toArray, List.set_cons_succ, List.set_cons_zero]
        refine wpS_alloc (i := 3) (dd := 15) (z := .agg #[.int .i64 0, .int .i64 0, .slice none 0 0]) (cs := #[.int .i64 0, .int .i64 0, .slice none 0 0]) rfl (by rfl) rfl (by kernel_rfl) rfl HM143.out covS_nil rfl ?_
        rintro b146 W145 hm144 -
        have HM147 := Lib.hid hm144
        clear hm144
        simp only [Act.put, List.setIfInBounds_toArray, List.set_cons_succ, List.set_cons_zero]
        refine wpS_storeA (i := 4) (L2 := [_, _, _, _, _, _, _, _]) (cs' := [_, _, _]) rfl (by rfl) rfl rfl rfl (by kernel_rfl) (by rfl) HM147.out 0 rfl rfl rfl rfl covS_nil rfl ?_
        rintro W149 hm148 -
        have HM150 := Lib.hid hm148
        clear hm148
        refine wpS_nil ?_
        refine then_normal ?_
        refine wp_seq ?_
        have gaa : (a1 + 1 == a1 + 1) = true := beq_self_eq_true _
        refine wp_region_M (fun k => k ∈ ([b3, b56, b67, b146] : List Nat)) [(0, 1), (1, 1), (2, 1), (3, 1), (4, 1), (5, 1), (6, 1), (7, 1), (8, 1), (9, 1), (10, 1), (11, 1), (12, 1), (13, 1), (14, 1), (15, 2), (16, 1), (17, 1), (18, 3), (19, 3), (20, 1), (21, 1), (22, 1), (23, 1), (24, 1), (25, 1), (26, 1), (27, 1), (29, 0), (30, 0), (31, 0), (28, 3), (32, 1), (33, 1), (34, 1), (35, 1), (36, 3), (37, 1), (38, 1)] (by kernel_rfl) (by kernel_rfl) HM150.out ?_
        intro W151 hm152
        have HM153 := Lib.hid hm152
        clear hm152
        have Cb15 := Mem.cell HM153.out 0 rfl
        have Cb5 := Mem.cell HM153.out 8 rfl
        refine wpS_this [0, 1, 2, 3, 4, 5, 6, 7, 8, 9, 10, 11, 12, 13, 14] rfl (by kernel_rfl) (by simp only [pickL, nthL, List.cons_append, List.nil_append]; rfl) ?_
        repeat (go_big_quiet_step (fail))
        refine wpQuiet_nil ?_
        clear Cb15 Cb5
        have Cb15 := Mem.cell HM153.out 0 rfl
        refine wpS_stay [15] rfl (by kernel_rfl) (by simp only [pickL, nthL, List.cons_append, List.nil_append]; rfl) ?_
        repeat (go_big_quiet_step (fail))
        refine wpQuiet_nil ?_
        clear Cb15
        have Cb13 := Mem.cell HM153.out 4 rfl
        have Cb11 := Mem.cell HM153.out 6 rfl
        refine wpS_this [16, 17] rfl (by kernel_rfl) (by simp only [pickL, nthL, List.cons_append, List.nil_append]; rfl) ?_
        repeat (go_big_quiet_step (fail))
        refine wpQuiet_nil ?_
        clear Cb13 Cb11
        refine wpS_doesU2 (i := 18) (d := some 73) (rem := [_, _, _, _, _, _, _]) rfl (by rfl) rfl Try.call17 (DoesU.ofList (join_d (listT [_, _]) _ (a1 + 1) m sq (srcL 1 rfl rowT_reads) lq _ (a1 + 1) m st (srcL 0 rfl rowT_reads) lt (a1 + 1) m sj ((joinP_comm _ _).trans hj.out))) rfl rfl HM153.out [2, 2] rfl (covS_box 6 rfl (covS_box 4 rfl (covS_box 2 rfl (covS_box 0 rfl covS_nil)))) (fun _ => rfl) rfl ?_
        rintro u157 W155 hm154 hg156
        obtain ⟨pk, ck, rfl, hm154q⟩ := Mem.plan rfl hm154
        clear hm154
        have HM158 := Lib.hid hm154q
        clear hm154q
        simp only [Act.put, List.setIfInBounds_toArray, List.set_cons_succ, List.set_cons_zero]
        refine wpS_does2 (i := 19) (d := some 74) (rem := [_, _, _, _, _, _, _, _]) (out := [_, _, _, _, _, _, _, _, _, _]) rfl (by rfl) rfl Try.call16 (Does.ofList (same_d (listT [_, _]) _ (a1 + 1) m sj (srcL 0 rfl rowT_reads) hjl _ (a1 + 1) m sj (srcL 1 rfl rowT_reads) hjl)) rfl rfl HM158.out [4, 0] rfl (covS_box 7 rfl (covS_box 5 rfl (covS_box 3 rfl (covS_box 2 rfl covS_nil)))) rfl rfl ?_
        rintro W160 hm159 hg161
        rw [same_self]
        have HM162 := Lib.hid hm159
        clear hm159
        simp only [Act.put, List.setIfInBounds_toArray, List.set_cons_succ, List.set_cons_zero]
        have Cb15 := Mem.cell HM162.out 4 rfl
        have Cb11 := Mem.cell HM162.out 7 rfl
        refine wpS_this [20, 21, 22, 23, 24, 25, 26, 27] rfl (by kernel_rfl) (by simp only [pickL, nthL, List.cons_append, List.nil_append]; rfl) ?_
        repeat (go_big_quiet_step (fail))
        refine wpQuiet_nil ?_
        clear Cb15 Cb11
        refine wpS_all [29, 30, 31] rfl (by kernel_rfl) (by simp only [pickL, nthL, List.cons_append, List.nil_append]; rfl) ?_
        repeat (go_big_quiet_step (fail))
        refine wpQuiet_nil ?_
        refine wpS_skip (i := 28) (d := some 83) rfl (by rfl) rfl ?_
        simp only [Act.put, List.setIfInBounds_toArray, List.set_cons_succ, List.set_cons_zero]
        refine wpS_this [32, 33, 34, 35] rfl (by kernel_rfl) (by simp only [pickL, nthL, List.cons_append, List.nil_append]; rfl) ?_
        repeat (go_big_quiet_step (fail))
        refine wpQuiet_nil ?_
        refine wpS_does0 (i := 36) (d := some 91) (rem := [_, _, _, _, _, _, _, _, _, _]) (out := [_, _, _, _, _, _, _, _, _, _]) rfl (by rfl) rfl Try.call9 (awake_d)  HM162.out [] rfl (covS_box 9 rfl (covS_box 7 rfl (covS_box 5 rfl (covS_box 4 rfl covS_nil)))) rfl rfl ?_
        rintro W164 hm163 hg165
        have HM166 := Lib.hid hm163
        clear hm163
        simp only [Act.put, List.setIfInBounds_toArray, List.set_cons_succ, List.set_cons_zero]
        refine wpS_this [37, 38] rfl (by kernel_rfl) (by simp only [pickL, nthL, List.cons_append, List.nil_append]; rfl) ?_
        repeat (go_big_quiet_step (fail))
        refine wpQuiet_nil ?_
        refine wpS_nil ?_
        refine then_normal ?_
        refine wp_ret ?_
        refine bodyPost_ret (results_tmp rfl _ _ _) rfl ?_
        exact does_ret (Mem.only (M := [_]) HM166.out [6] rfl) rfl rfl

end Go.Proofs.Ytcdhipflfnafaaa
