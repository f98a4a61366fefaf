/- Ledgers: awake, LedgerNil. -/
import Derived.Test.YtnahhbpaijfpbaaLgX
import Derived.Test.YtnahhbpaijfpbaaLgK
import Derived.Test.YtnahhbpaijfpbaaLgL
namespace Go.Proofs.Ytnahhbpaijfpbaa
open Go Go.RowKit Go.BigFrame

def incD (n : Int) : Dd := ⟨1, n, ⟨#[]⟩, noB, noR, 0⟩
theorem inc_r (R : At) (n : Int) : DdR R (incD n) (.slice none 0 0) (.slice none 0 0) := ⟨vNil R, Nat.zero_le _, srcNil R, Nat.zero_le _⟩
theorem inc_may {n : Int} (h : 0 ≤ n ∧ n ≤ 1000000) : mayD (incD n) = true := by
  rw [may_1 (d := incD n) rfl, show numD (incD n).n = true from decide_eq_true h, Bool.true_and]
  exact sameD_refl noD
def wS1 : Lg := ⟨5, 0, [incD 3]⟩
def wS2 : Lg := ⟨5, 1, [incD 3]⟩
def wS3 : Lg := ⟨5, 1, [incD 3, incD 4]⟩
theorem w_1 : writeL (newL 5) (incD 3) = (wS1, 0) := write_ok (inc_may (by decide)) (by decide)
theorem w_2 : syncL wS1 = (wS2, 1) := rfl
theorem w_3 : writeL wS2 (incD 4) = (wS3, 0) := write_ok (inc_may (by decide)) (by decide)
theorem w_4 : crashL wS3 0 = (wS2, 1) := rfl
theorem ok_1 : LgOk wS1 := by
  have := (LgOk.new 5).write (incD 3)
  rwa [w_1] at this
theorem ok_2 : LgOk wS2 := ok_1.sync
theorem ok_3 : LgOk wS3 := by
  have := ok_2.write (incD 4)
  rwa [w_3] at this
theorem one_row {xs : List Dx} {d : Dd} (h : xs.map (fun x => x.d) = [d]) : ∃ x, xs = [x] ∧ x.d = d := by
  match xs, h with
  | [x], h => exact ⟨x, rfl, List.singleton_inj.1 h⟩
theorem dd_n {a b : Nat} {W : World} {x : Dx} (h : ∀ k u, (x.enc)[k]? = some u → W.cell? ⟨a, b + k, none⟩ = some u) : W.cell? ⟨a, b + 1, none⟩ = some (.int .i64 x.d.n) := h 1 _ rfl
set_option maxHeartbeats 4000000 in
set_option maxRecDepth 100000 in
theorem awake_d  : Does Try.prog 9 #[] [] (.bool true) [] := by
  intro w H hp
  have HM0 := Lib.hid (mem_refl hp)
  clear hp
  go_enter Try.func9, Try.ntmps9
  refine wp_seq ?_
  refine wp_region_N [(0, 1)] (by kernel_rfl) ?_
  refine wpS_this [0] rfl (by kernel_rfl) (by simp only [pickL, nthL, List.cons_append, List.nil_append]; rfl) ?_
  repeat (go_big_quiet_step (fail))
  refine wpQuiet_nil ?_
  refine wpS_nil ?_
  refine then_normal ?_
  refine wp_seq ?_
  refine wp_region_N [(0, 3), (1, 1)] (by kernel_rfl) ?_
  refine wpS_doesU1 (i := 0) (d := some 7) (rem := []) rfl (by rfl) rfl Try.call10 (lnew_d 5) rfl HM0.out [] rfl covS_nil (fun _ => rfl) rfl ?_
  rintro u3 W2 hm1 -
  obtain ⟨d, rfl, hm1q⟩ := Mem.lgN hm1
  clear hm1
  have HM4 := Lib.hid hm1q
  clear hm1q
  simp only [Act.put, List.setIfInBounds_toArray, List.set_cons_succ, List.set_cons_zero]
  refine wpS_this [1] rfl (by kernel_rfl) (by simp only [pickL, nthL, List.cons_append, List.nil_append]; rfl) ?_
  repeat (go_big_quiet_step (fail))
  refine wpQuiet_nil ?_
  refine wpS_nil ?_
  refine then_normal ?_
  refine wp_seq ?_
  have HR := Lib.hid (Mem.nilRow elemI HM4.out)
  refine wp_region_N [(0, 1), (1, 1), (2, 3), (3, 1)] (by kernel_rfl) ?_
  refine wpS_this [0] rfl (by kernel_rfl) (by simp only [pickL, nthL, List.cons_append, List.nil_append]; rfl) ?_
  repeat (go_big_quiet_step (fail))
  refine wpQuiet_nil ?_
  refine wpS_read (i := 1) (d := some 9) (v := ddV (incD 3) (.slice none 0 0) (.slice none 0 0)) rfl (by rfl) (by kernel_rfl) rfl ?_
  simp only [Act.put, List.setIfInBounds_toArray, List.set_cons_succ, List.set_cons_zero]
  refine wpS_does2 (i := 2) (d := some 10) (rem := []) (out := [_, _]) rfl (by rfl) rfl Try.call20 (lwrite_d _ d (newL 5) (incD 3) _ _ (inc_r _ 3) (LgOk.new 5)) rfl rfl HR.out [1, 0] rfl covS_nil rfl rfl ?_
  rintro W6 hm5 -
  rw [w_1] at hm5 ⊢
  have HM7 := Lib.hid hm5
  clear hm5
  simp only [Act.put, List.setIfInBounds_toArray, List.set_cons_succ, List.set_cons_zero]
  refine wpS_this [3] rfl (by kernel_rfl) (by simp only [pickL, nthL, List.cons_append, List.nil_append]; rfl) ?_
  repeat (go_big_quiet_step (fail))
  refine wpQuiet_nil ?_
  refine wpS_nil ?_
  refine then_normal ?_
  refine wp_seq ?_
  refine wp_region_N [(0, 1), (1, 3), (2, 1)] (by kernel_rfl) ?_
  refine wpS_this [0] rfl (by kernel_rfl) (by simp only [pickL, nthL, List.cons_append, List.nil_append]; rfl) ?_
  repeat (go_big_quiet_step (fail))
  refine wpQuiet_nil ?_
  refine wpS_does1 (i := 1) (d := some 12) (rem := [_]) (out := [_, _]) rfl (by rfl) rfl Try.call16 (lsync_d d wS1 ok_1) rfl HM7.out [0] rfl covS_nil rfl rfl ?_
  rintro W9 hm8 -
  rw [w_2] at hm8 ⊢
  have HM10 := Lib.hid hm8
  clear hm8
  simp only [Act.put, List.setIfInBounds_toArray, List.set_cons_succ, List.set_cons_zero]
  refine wpS_this [2] rfl (by kernel_rfl) (by simp only [pickL, nthL, List.cons_append, List.nil_append]; rfl) ?_
  repeat (go_big_quiet_step (fail))
  refine wpQuiet_nil ?_
  refine wpS_nil ?_
  refine then_normal ?_
  refine wp_seq ?_
  refine wp_region_N [(0, 1), (1, 1), (2, 3), (3, 1)] (by kernel_rfl) ?_
  refine wpS_this [0] rfl (by kernel_rfl) (by simp only [pickL, nthL, List.cons_append, List.nil_append]; rfl) ?_
  repeat (go_big_quiet_step (fail))
  refine wpQuiet_nil ?_
  refine wpS_read (i := 1) (d := some 14) (v := ddV (incD 4) (.slice none 0 0) (.slice none 0 0)) rfl (by rfl) (by kernel_rfl) rfl ?_
  simp only [Act.put, List.setIfInBounds_toArray, List.set_cons_succ, List.set_cons_zero]
  refine wpS_does2 (i := 2) (d := some 15) (rem := []) (out := [_, _]) rfl (by rfl) rfl Try.call20 (lwrite_d _ d wS2 (incD 4) _ _ (inc_r _ 4) ok_2) rfl rfl HM10.out [0, 0] rfl covS_nil rfl rfl ?_
  rintro W12 hm11 -
  rw [w_3] at hm11 ⊢
  have HM13 := Lib.hid hm11
  clear hm11
  simp only [Act.put, List.setIfInBounds_toArray, List.set_cons_succ, List.set_cons_zero]
  refine wpS_this [3] rfl (by kernel_rfl) (by simp only [pickL, nthL, List.cons_append, List.nil_append]; rfl) ?_
  repeat (go_big_quiet_step (fail))
  refine wpQuiet_nil ?_
  refine wpS_nil ?_
  refine then_normal ?_
  refine wp_seq ?_
  refine wp_region_N [(0, 1), (1, 3), (2, 1)] (by kernel_rfl) ?_
  refine wpS_this [0] rfl (by kernel_rfl) (by simp only [pickL, nthL, List.cons_append, List.nil_append]; rfl) ?_
  repeat (go_big_quiet_step (fail))
  refine wpQuiet_nil ?_
  refine wpS_does2 (i := 1) (d := some 17) (rem := [_]) (out := [_, _]) rfl (by rfl) rfl Try.call18 (lcrash_d d wS3 ok_3 0) rfl rfl HM13.out [0] rfl covS_nil rfl rfl ?_
  rintro W15 hm14 -
  rw [w_4] at hm14 ⊢
  have HM16 := Lib.hid hm14
  clear hm14
  simp only [Act.put, List.setIfInBounds_toArray, List.set_cons_succ, List.set_cons_zero]
  refine wpS_this [2] rfl (by kernel_rfl) (by simp only [pickL, nthL, List.cons_append, List.nil_append]; rfl) ?_
  repeat (go_big_quiet_step (fail))
  refine wpQuiet_nil ?_
  refine wpS_nil ?_
  refine then_normal ?_
  refine wp_seq ?_
  refine wp_region_N [(0, 1), (1, 3), (2, 1)] (by kernel_rfl) ?_
  refine wpS_this [0] rfl (by kernel_rfl) (by simp only [pickL, nthL, List.cons_append, List.nil_append]; rfl) ?_
  repeat (go_big_quiet_step (fail))
  refine wpQuiet_nil ?_
  refine wpS_doesU1 (i := 1) (d := some 19) (rem := [_]) rfl (by rfl) rfl Try.call26 (lall_d d wS2 ok_2) rfl HM16.out [0] rfl covS_nil (fun _ => rfl) rfl ?_
  rintro u19 W18 hm17 -
  obtain ⟨xs, p, c, hxs', rfl, hm17q⟩ := Mem.alR hm17
  clear hm17
  obtain ⟨x, rfl, hxd'⟩ := one_row hxs'
  clear hxs'
  have hxd := Lib.hid hxd'
  clear hxd'
  have HM20 := Lib.hid hm17q
  clear hm17q
  simp only [Act.put, List.setIfInBounds_toArray, List.set_cons_succ, List.set_cons_zero]
  refine wpS_this [2] rfl (by kernel_rfl) (by simp only [pickL, nthL, List.cons_append, List.nil_append]; rfl) ?_
  repeat (go_big_quiet_step (fail))
  refine wpQuiet_nil ?_
  refine wpS_nil ?_
  refine then_normal ?_
  refine wp_seq ?_
  refine wp_region_N [(0, 1), (1, 1), (2, 1), (3, 1), (4, 1), (5, 1), (6, 1), (7, 1), (8, 1), (9, 1), (10, 1), (11, 1), (12, 1), (13, 1), (14, 1), (15, 1), (16, 1), (17, 1), (18, 1), (19, 1), (20, 1), (21, 1), (22, 1), (23, 1), (24, 1), (25, 1), (26, 1)] (by kernel_rfl) ?_
  refine wpS_this [0, 1, 2, 3, 4, 5, 6, 7, 8, 9, 10, 11, 12, 13, 14, 15, 16, 17, 18, 19, 20] rfl (by kernel_rfl) (by simp only [pickL, nthL, List.cons_append, List.nil_append]; rfl) ?_
  repeat (go_big_quiet_step (fail))
  refine wpQuiet_nil ?_
  refine wpS_index (E := elemDx) (i := 21) (d := some 41) rfl (by rfl) rfl rfl rfl (rowAt_src (Mem.src HM20.out 0 rfl rowT_reads)) ((show ([x] : List Dx)[0]? = some x from rfl)) rfl ?_
  intro eb21 eo22 hc23
  simp only [Act.put, List.setIfInBounds_toArray, List.set_cons_succ, List.set_cons_zero]
  refine wpS_this [22] rfl (by kernel_rfl) (by simp only [pickL, nthL, List.cons_append, List.nil_append]; rfl) ?_
  repeat (go_big_quiet_step (fail))
  refine wpQuiet_nil ?_
  refine wpS_load1 (i := 23) (d := some 43) (u := .int .i64 3) rfl (by rfl) rfl rfl ((hc23 1 _ rfl).trans (by rw [hxd.out]; rfl)) Try.underlying3 rfl rfl ?_
  simp only [Act.put, List.setIfInBounds_toArray, List.set_cons_succ, List.set_cons_zero]
  refine wpS_this [24, 25, 26] rfl (by kernel_rfl) (by simp only [pickL, nthL, List.cons_append, List.nil_append]; rfl) ?_
  repeat (go_big_quiet_step (fail))
  refine wpQuiet_nil ?_
  refine wpS_nil ?_
  refine then_normal ?_
  refine wp_ret ?_
  refine bodyPost_ret (results_tmp rfl _ _ _) rfl ?_
  exact does_ret (Mem.only (M := []) HM20.out [] rfl) rfl rfl

set_option maxHeartbeats 4000000 in
set_option maxRecDepth 100000 in
theorem nil_d (R : At) (y : CallL) (hy' : DxL R y.x) : Does Try.prog 4 #[.agg (CallL.enc y).toArray] [R] (.bool true) [R] := by
  intro w H hp
  have HM0 := Lib.hid (mem_refl hp)
  clear hp
  have hy := Lib.hid hy'
  clear hy'
  go_enter Try.func4, Try.ntmps4
  refine wp_seq ?_
  refine wp_region_N [(0, 3), (1, 1)] (by kernel_rfl) ?_
  refine wpS_boxA (i := 0) (dd := 1) rfl (by rfl) rfl rfl HM0.out covS_nil rfl ?_
  rintro b3 W2 hm1 -
  have HM4 := Lib.hid hm1
  clear hm1
  simp only [Act.put, List.setIfInBounds_toArray, List.set_cons_succ, List.set_cons_zero]
  refine wpS_this [1] rfl (by kernel_rfl) (by simp only [pickL, nthL, List.cons_append, List.nil_append]; rfl) ?_
  repeat (go_big_quiet_step (fail))
  refine wpQuiet_nil ?_
  refine wpS_nil ?_
  refine then_normal ?_
  refine wp_seq ?_
  refine wp_seq ?_
  cases hl' : litL [y]
  · have hl := Lib.hid hl'
    clear hl'
    refine wp_region_N [(0, 1), (1, 3), (2, 3), (3, 1)] (by kernel_rfl) ?_
    refine wpS_loadA (i := 0) (d := some 4) (cells := CallL.enc y) rfl (by rfl) rfl rfl (HM4.out.part 0 rfl (fun k u h => by rw [Nat.zero_add]; exact h)) Try.underlying45 rfl (by kernel_rfl) rfl ?_
    simp only [Act.put, List.setIfInBounds_toArray, List.set_cons_succ, List.set_cons_zero]
    refine wpS_buildN elemL (i := 1) (dd := 5) (n := 1) (xs := [y]) (cs := (CallL.enc y ++ []).toArray) rfl (by rfl) (fun _ => by kernel_rfl) rfl rfl HM4.out covS_nil rfl ?_
    rintro b7 W8 hm9 -
    have HM10 := Lib.hid hm9
    clear hm9
    simp only [Act.put, List.setIfInBounds_toArray, List.set_cons_succ, List.set_cons_zero]
    refine wpS_does1 (i := 2) (d := some 6) (rem := [_]) (out := [_, _, _]) rfl (by rfl) rfl Try.call8 (Does.ofList (light_d (listT [_, _]) _ [y] (vRowE 0 rfl rowT_reads) (fun z hz => by rw [List.mem_singleton] at hz; subst hz; exact ⟨vL 1 rfl hy.out.v, hy.out.lv, vL 1 rfl hy.out.r⟩))) rfl HM10.out [0, 1] rfl covS_nil rfl rfl ?_
    rintro W12 hm11 -
    rw [hl.out]
    have HM13 := Lib.hid hm11
    clear hm11
    simp only [Act.put, List.setIfInBounds_toArray, List.set_cons_succ, List.set_cons_zero]
    refine wpS_this [3] rfl (by kernel_rfl) (by simp only [pickL, nthL, List.cons_append, List.nil_append]; rfl) ?_
    repeat (go_big_quiet_step (fail))
    refine wpQuiet_nil ?_
    refine wpS_nil ?_
    refine then_normal ?_
    refine wp_cond_true rfl ?_
    refine wp_seq ?_
    refine wp_region_N [(0, 3), (1, 1)] (by kernel_rfl) ?_
    refine wpS_does0 (i := 0) (d := some 8) (rem := [_, _, _]) (out := [_, _, _]) rfl (by rfl) rfl Try.call9 (awake_d)  HM13.out [] rfl covS_nil rfl rfl ?_
    rintro W15 hm14 -
    have HM16 := Lib.hid hm14
    clear hm14
    simp only [Act.put, List.setIfInBounds_toArray, List.set_cons_succ, List.set_cons_zero]
    refine wpS_this [1] rfl (by kernel_rfl) (by simp only [pickL, nthL, List.cons_append, List.nil_append]; rfl) ?_
    repeat (go_big_quiet_step (fail))
    refine wpQuiet_nil ?_
    refine wpS_nil ?_
    refine then_normal ?_
    refine wp_ret ?_
    refine then_ret ?_
    refine bodyPost_ret (results_tmp rfl _ _ _) rfl ?_
    exact does_ret (Mem.only (M := [_]) HM16.out [1] rfl) rfl rfl
  · have hl := Lib.hid hl'
    clear hl'
    refine wp_region_N [(0, 1), (1, 3), (2, 3), (3, 1)] (by kernel_rfl) ?_
    refine wpS_loadA (i := 0) (d := some 4) (cells := CallL.enc y) rfl (by rfl) rfl rfl (HM4.out.part 0 rfl (fun k u h => by rw [Nat.zero_add]; exact h)) Try.underlying45 rfl (by kernel_rfl) rfl ?_
    simp only [Act.put, List.setIfInBounds_toArray, List.set_cons_succ, List.set_cons_zero]
    refine wpS_buildN elemL (i := 1) (dd := 5) (n := 1) (xs := [y]) (cs := (CallL.enc y ++ []).toArray) rfl (by rfl) (fun _ => by kernel_rfl) rfl rfl HM4.out covS_nil rfl ?_
    rintro b19 W20 hm21 -
    have HM22 := Lib.hid hm21
    clear hm21
    simp only [Act.put, List.setIfInBounds_toArray, List.set_cons_succ, List.set_cons_zero]
    refine wpS_does1 (i := 2) (d := some 6) (rem := [_]) (out := [_, _, _]) rfl (by rfl) rfl Try.call8 (Does.ofList (light_d (listT [_, _]) _ [y] (vRowE 0 rfl rowT_reads) (fun z hz => by rw [List.mem_singleton] at hz; subst hz; exact ⟨vL 1 rfl hy.out.v, hy.out.lv, vL 1 rfl hy.out.r⟩))) rfl HM22.out [0, 1] rfl covS_nil rfl rfl ?_
    rintro W24 hm23 -
    rw [hl.out]
    have HM25 := Lib.hid hm23
    clear hm23
    simp only [Act.put, List.setIfInBounds_toArray, List.set_cons_succ, List.set_cons_zero]
    refine wpS_this [3] rfl (by kernel_rfl) (by simp only [pickL, nthL, List.cons_append, List.nil_append]; rfl) ?_
    repeat (go_big_quiet_step (fail))
    refine wpQuiet_nil ?_
    refine wpS_nil ?_
    refine then_normal ?_
    refine wp_cond_false rfl ?_
    refine wp_skip ?_
    refine then_normal ?_
    refine wp_seq ?_
    refine wp_region_N [(0, 1)] (by kernel_rfl) ?_
    refine wpS_this [0] rfl (by kernel_rfl) (by simp only [pickL, nthL, List.cons_append, List.nil_append]; rfl) ?_
    repeat (go_big_quiet_step (fail))
    refine wpQuiet_nil ?_
    refine wpS_nil ?_
    refine then_normal ?_
    refine wp_seq ?_
    refine wp_region_N [(0, 1), (1, 1), (2, 1), (3, 3), (4, 1), (5, 1), (6, 1), (7, 3), (8, 1), (9, 1), (10, 1), (11, 1), (12, 1), (13, 1), (14, 3), (15, 1), (16, 1), (17, 1), (18, 1), (19, 3), (20, 1), (21, 1), (22, 1), (23, 1), (24, 1), (25, 3), (26, 1), (27, 1), (28, 1), (29, 1), (30, 3), (31, 1), (32, 1), (33, 1), (34, 1), (35, 3), (36, 1), (37, 1), (38, 1), (39, 3), (40, 1), (41, 1)] (by kernel_rfl) ?_
    refine wpS_this [0, 1] rfl (by kernel_rfl) (by simp only [pickL, nthL, List.cons_append, List.nil_append]; rfl) ?_
    repeat (go_big_quiet_step (fail))
    refine wpQuiet_nil ?_
    refine wpS_loadA (i := 2) (d := some 11) (cells := y.x.enc) rfl (by rfl) rfl rfl (HM25.out.part 2 rfl (fun _ _ h => sub_app [_, _] _ [] h)) Try.underlying43 rfl (by kernel_rfl) rfl ?_
    simp only [Act.put, List.setIfInBounds_toArray, List.set_cons_succ, List.set_cons_zero]
    refine wpS_does2 (i := 3) (d := some 12) (rem := [_, _, _]) (out := [_, _, _]) rfl (by rfl) rfl Try.call20 (lwrite0_d _ _ _) rfl rfl HM25.out [] rfl covS_nil rfl rfl ?_
    rintro W27 hm26 -
    have HM28 := Lib.hid hm26
    clear hm26
    simp only [Act.put, List.setIfInBounds_toArray, List.set_cons_succ, List.set_cons_zero]
    refine wpS_this [4, 5, 6] rfl (by kernel_rfl) (by simp only [pickL, nthL, List.cons_append, List.nil_append]; rfl) ?_
    repeat (go_big_quiet_step (fail))
    refine wpQuiet_nil ?_
    refine wpS_does1 (i := 7) (d := some 16) (rem := [_, _, _]) (out := [_, _, _]) rfl (by rfl) rfl Try.call16 (lsync0_d) rfl HM28.out [] rfl covS_nil rfl rfl ?_
    rintro W30 hm29 -
    have HM31 := Lib.hid hm29
    clear hm29
    simp only [Act.put, List.setIfInBounds_toArray, List.set_cons_succ, List.set_cons_zero]
    refine wpS_this [8, 9, 10, 11, 12] rfl (by kernel_rfl) (by simp only [pickL, nthL, List.cons_append, List.nil_append]; rfl) ?_
    repeat (go_big_quiet_step (fail))
    refine wpQuiet_nil ?_
    refine wpS_load1 (i := 13) (d := some 22) (u := .int .i64 y.n) rfl (by rfl) rfl rfl (HM31.out.part1 2 rfl rfl) Try.underlying3 rfl rfl ?_
    simp only [Act.put, List.setIfInBounds_toArray, List.set_cons_succ, List.set_cons_zero]
    refine wpS_does2 (i := 14) (d := some 23) (rem := [_, _, _]) (out := [_, _, _]) rfl (by rfl) rfl Try.call18 (lcrash0_d _) rfl rfl HM31.out [] rfl covS_nil rfl rfl ?_
    rintro W33 hm32 -
    have HM34 := Lib.hid hm32
    clear hm32
    simp only [Act.put, List.setIfInBounds_toArray, List.set_cons_succ, List.set_cons_zero]
    refine wpS_this [15, 16, 17, 18] rfl (by kernel_rfl) (by simp only [pickL, nthL, List.cons_append, List.nil_append]; rfl) ?_
    repeat (go_big_quiet_step (fail))
    refine wpQuiet_nil ?_
    refine wpS_does1 (i := 19) (d := some 28) (rem := [_, _, _]) (out := [_, _, _]) rfl (by rfl) rfl Try.call26 (lall0_d) rfl HM34.out [] rfl covS_nil rfl rfl ?_
    rintro W36 hm35 -
    have HM37 := Lib.hid hm35
    clear hm35
    simp only [Act.put, List.setIfInBounds_toArray, List.set_cons_succ, List.set_cons_zero]
    refine wpS_this [20, 21, 22, 23, 24] rfl (by kernel_rfl) (by simp only [pickL, nthL, List.cons_append, List.nil_append]; rfl) ?_
    repeat (go_big_quiet_step (fail))
    refine wpQuiet_nil ?_
    refine wpS_does1 (i := 25) (d := some 34) (rem := [_, _, _]) (out := [_, _, _]) rfl (by rfl) rfl Try.call23 (lsure0_d) rfl HM37.out [] rfl covS_nil rfl rfl ?_
    rintro W39 hm38 -
    have HM40 := Lib.hid hm38
    clear hm38
    simp only [Act.put, List.setIfInBounds_toArray, List.set_cons_succ, List.set_cons_zero]
    refine wpS_this [26, 27, 28, 29] rfl (by kernel_rfl) (by simp only [pickL, nthL, List.cons_append, List.nil_append]; rfl) ?_
    repeat (go_big_quiet_step (fail))
    refine wpQuiet_nil ?_
    refine wpS_does1 (i := 30) (d := some 39) (rem := [_, _, _]) (out := [_, _, _]) rfl (by rfl) rfl Try.call22 (llen0_d) rfl HM40.out [] rfl covS_nil rfl rfl ?_
    rintro W42 hm41 -
    have HM43 := Lib.hid hm41
    clear hm41
    simp only [Act.put, List.setIfInBounds_toArray, List.set_cons_succ, List.set_cons_zero]
    refine wpS_this [31, 32, 33, 34] rfl (by kernel_rfl) (by simp only [pickL, nthL, List.cons_append, List.nil_append]; rfl) ?_
    repeat (go_big_quiet_step (fail))
    refine wpQuiet_nil ?_
    refine wpS_does1 (i := 35) (d := some 44) (rem := [_, _, _]) (out := [_, _, _]) rfl (by rfl) rfl Try.call24 (lroom0_d) rfl HM43.out [] rfl covS_nil rfl rfl ?_
    rintro W45 hm44 -
    have HM46 := Lib.hid hm44
    clear hm44
    simp only [Act.put, List.setIfInBounds_toArray, List.set_cons_succ, List.set_cons_zero]
    refine wpS_this [36, 37, 38] rfl (by kernel_rfl) (by simp only [pickL, nthL, List.cons_append, List.nil_append]; rfl) ?_
    repeat (go_big_quiet_step (fail))
    refine wpQuiet_nil ?_
    refine wpS_does0 (i := 39) (d := some 48) (rem := [_, _, _]) (out := [_, _, _]) rfl (by rfl) rfl Try.call9 (awake_d)  HM46.out [] rfl covS_nil rfl rfl ?_
    rintro W48 hm47 -
    have HM49 := Lib.hid hm47
    clear hm47
    simp only [Act.put, List.setIfInBounds_toArray, List.set_cons_succ, List.set_cons_zero]
    refine wpS_this [40, 41] rfl (by kernel_rfl) (by simp only [pickL, nthL, List.cons_append, List.nil_append]; rfl) ?_
    repeat (go_big_quiet_step (fail))
    refine wpQuiet_nil ?_
    refine wpS_nil ?_
    refine then_normal ?_
    refine wp_ret ?_
    refine bodyPost_ret (results_tmp rfl _ _ _) rfl ?_
    exact does_ret (Mem.only (M := [_]) HM49.out [1] rfl) rfl rfl

end Go.Proofs.Ytnahhbpaijfpbaa
