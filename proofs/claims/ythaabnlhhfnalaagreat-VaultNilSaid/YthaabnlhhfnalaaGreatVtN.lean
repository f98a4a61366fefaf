/- Vaults: VaultNil. -/
import Derived.Test.YthaabnlhhfnalaaGreatVtO
import Derived.Test.YthaabnlhhfnalaaGreatVtY
import Derived.Test.YthaabnlhhfnalaaGreatVtL
import Derived.Test.YthaabnlhhfnalaaGreatPA
namespace Go.Proofs.YthaabnlhhfnalaaGreat
open Go Go.RowKit Go.BigFrame
set_option maxHeartbeats 4000000 in
set_option maxRecDepth 100000 in
theorem vnil_d (R : At) (c : Cv) (hc' : CvL R c) : Does Tryz.prog 3 #[.agg (cvC c).toArray] [R] (.bool true) [R] := by
 intro w H hp
 have HM0 := Lib.hid (mem_refl hp)
 clear hp
 have hc := Lib.hid hc'
 clear hc'
 go_enter Tryz.func3, Tryz.ntmps3
 simp only [List.append_eq, List.cons_append, List.nil_append]
 refine wp_seq (wN [(0, 3), (1, 1)] ?_)
 refine wBh 0 HM0 fun b3 W2 HM4 => ?_
 refine wT [1] ?_
 refine wZ (wp_seq (wp_seq ?_))
 cases hl' : litC [c]
 ·have hl := Lib.hid hl'
  clear hl'
  refine wN [(0, 1), (1, 3), (2, 3), (3, 1)] ?_
  refine wL 0 (cvC c) (HM4.out.part 0 rfl (cvC_all)) Tryz.underlying36 ?_
  refine wpS_buildN elemC (i := 1) (dd := 9) (n := 1) (xs := [c]) (cs := (cvC c ++ []).toArray) rfl (by rfl) (fun _ => by kernel_rfl) rfl rfl HM4.out covS_nil rfl ?_
  rintro b7 W8 hm9 -
  have HM10 := Lib.hid hm9
  clear hm9
  simp only [Act.put, List.setIfInBounds_toArray, List.set_cons_succ, List.set_cons_zero]
  refine wD1 2 [_] [_, _, _] Tryz.call5 (Does.ofList (lightV_d (listT [_, _]) _ [c] (vRowE8 0 rfl rowT_reads) hc.out.one)) HM10 [0, 1] fun W12 hm11 => ?_
  rw [hl.out]
  have HM13 := Lib.hid hm11
  clear hm11
  refine wT [3] ?_
  refine wZ (wp_cond_true rfl (wp_seq (wN [(0, 3), (1, 1)] ?_)))
  refine wD0h 0 [_, _, _] [_, _, _] Tryz.call6 (vawake_d) HM13 [] fun W15 HM16 => ?_
  refine wT [1] ?_
  refine wZ (wp_ret (then_ret (bodyPost_ret (results_tmp rfl _ _ _) rfl ?_)))
  exact does_ret (Mem.only (M := [_]) HM16.out [1] rfl) rfl rfl
 ·have hl := Lib.hid hl'
  clear hl'
  refine wN [(0, 1), (1, 3), (2, 3), (3, 1)] ?_
  refine wL 0 (cvC c) (HM4.out.part 0 rfl (cvC_all)) Tryz.underlying36 ?_
  refine wpS_buildN elemC (i := 1) (dd := 9) (n := 1) (xs := [c]) (cs := (cvC c ++ []).toArray) rfl (by rfl) (fun _ => by kernel_rfl) rfl rfl HM4.out covS_nil rfl ?_
  rintro b19 W20 hm21 -
  have HM22 := Lib.hid hm21
  clear hm21
  simp only [Act.put, List.setIfInBounds_toArray, List.set_cons_succ, List.set_cons_zero]
  refine wD1 2 [_] [_, _, _] Tryz.call5 (Does.ofList (lightV_d (listT [_, _]) _ [c] (vRowE8 0 rfl rowT_reads) hc.out.one)) HM22 [0, 1] fun W24 hm23 => ?_
  rw [hl.out]
  have HM25 := Lib.hid hm23
  clear hm23
  refine wT [3] ?_
  refine wZ (wp_cond_false rfl (wp_skip (then_normal (wp_seq (wQ ?_)))))
  refine wp_seq (wN [(0, 1), (1, 3), (2, 1), (3, 1), (4, 1), (5, 3), (6, 3), (7, 1)] (wT [0] ?_))
  refine wD1h 1 [_, _, _] [_, _, _] Tryz.call7 (vring0_d) HM25 [] fun W27 HM28 => ?_
  refine wT [2, 3, 4] ?_
  refine wpS_alloc (i := 5) (dd := 4) (z := rgV noR (.slice none 0 0)) (cs := (rgC noR (.slice none 0 0)).toArray) rfl (by rfl) rfl (by kernel_rfl) rfl HM28.out covS_nil rfl ?_
  rintro b31 W30 hm29 -
  have HM32 := Lib.hid hm29
  clear hm29
  simp only [Act.put, List.setIfInBounds_toArray, List.set_cons_succ, List.set_cons_zero]
  refine wXkh (hone := (rgC_one _ _ _)) 6 [_, _, _] (rgC (noR) (.slice none 0 0)) HM32 0 fun W34 HM35 => ?_
  refine wT [7] ?_
  refine wZ (wp_seq (wN [(0, 1), (1, 1), (2, 1), (3, 1), (4, 1), (5, 1), (6, 1), (7, 1), (8, 1), (9, 3), (10, 1), (11, 1), (12, 1), (13, 3), (14, 3), (15, 1)] (wT [0, 1] ?_)))
  refine wM 2 (.int .i64 c.node) (HM35.out.part1 3 rfl cvC_node) Tryz.underlying3 ?_
  refine wT [3] ?_
  refine wM 4 (.string c.key) (HM35.out.part1 3 rfl cvC_key) Tryz.underlying9 ?_
  refine wT [5] ?_
  refine wL 6 (vcC c.known) (HM35.out.part 3 rfl (cvC_known)) Tryz.underlying31 ?_
  refine wT [7] ?_
  refine wM 8 (.string c.data) (HM35.out.part1 3 rfl cvC_data) Tryz.underlying9 ?_
  refine wD5h 9 [_, _, _, _] [_, _, _, _] Tryz.call8 (vput0_d _ _ _ _) HM35 [] fun W37 HM38 => ?_
  refine wT [10, 11, 12] ?_
  refine wpS_alloc (i := 13) (dd := 6) (z := .agg #[.int .i64 0, .int .i64 0]) (cs := #[.int .i64 0, .int .i64 0]) rfl (by rfl) rfl (by kernel_rfl) rfl HM38.out covS_nil rfl ?_
  rintro b41 W40 hm39 -
  have HM42 := Lib.hid hm39
  clear hm39
  simp only [Act.put, List.setIfInBounds_toArray, List.set_cons_succ, List.set_cons_zero]
  refine wXh 14 [_, _, _, _] [_, _] HM42 0 fun W44 HM45 => ?_
  refine wT [15] ?_
  refine wZ (wp_seq (wN [(0, 3), (1, 1), (2, 1), (3, 1), (4, 3), (5, 1), (6, 1), (7, 1), (8, 1), (9, 1), (10, 1), (11, 3), (12, 1), (13, 1), (14, 1), (15, 1), (16, 1), (17, 1), (18, 1), (19, 1), (20, 1), (21, 3), (22, 1), (23, 1), (24, 1), (25, 1), (26, 1), (27, 3), (28, 1), (29, 1), (30, 1), (31, 1), (32, 1), (33, 1), (34, 3), (35, 1), (36, 3), (37, 1), (38, 1), (39, 1), (40, 1), (41, 1), (42, 3), (43, 1), (44, 1), (45, 1), (46, 1), (47, 1), (48, 1), (49, 1), (50, 1), (51, 1), (52, 1), (53, 1), (54, 1), (55, 1), (56, 1), (57, 1), (58, 1), (59, 1), (60, 1), (61, 3), (62, 1), (63, 1), (64, 1), (65, 1), (66, 1), (67, 1), (68, 3), (69, 1), (70, 1), (71, 1), (72, 1), (73, 3), (74, 1), (75, 1), (76, 1), (77, 1), (78, 3), (79, 1), (80, 1), (81, 1), (82, 3), (83, 1), (84, 1)] ?_))
  refine wD1h 0 [_, _, _, _, _] [_, _, _, _, _] Tryz.call9 (vopen0_d) HM45 [] fun W47 HM48 => ?_
  refine wT [1, 2, 3] ?_
  refine wD1h 4 [_, _, _, _, _] [_, _, _, _, _] Tryz.call10 (vinc0_d) HM48 [] fun W50 HM51 => ?_
  refine wT [5, 6, 7, 8, 9] ?_
  refine wM 10 (.int .i64 c.n) (HM51.out.part1 4 rfl cvC_n) Tryz.underlying3 ?_
  refine wD2h 11 [_, _, _, _, _] [_, _, _, _, _] Tryz.call11 (vsetinc0_d _) HM51 [] fun W53 HM54 => ?_
  refine wT [12, 13, 14, 15, 16, 17, 18] ?_
  refine wL 19 (rgC (noR) (.slice none 0 0)) (HM54.out.sub 1 rfl (fun k u h => by rw [Nat.zero_add]; exact h)) Tryz.underlying30 ?_
  refine wR 20 (v := rgV noR (.slice none 0 0)) (by kernel_rfl) ?_
  refine wD2 21 [_, _, _, _, _] [_, _, _, _, _] Tryz.call12 (Does.ofList (gsame_d (listT []) _ noR (srcNil _) (Nat.zero_le _) _ noR (srcNil _) (Nat.zero_le _))) HM54 [] fun W56 hm55 => ?_
  rw [sameR_refl]
  have HM57 := Lib.hid hm55
  clear hm55
  refine wT [22, 23, 24, 25] ?_
  refine wL 26 (rgC c.r (.slice c.rp c.rn c.rc)) (HM57.out.part 4 rfl (cvC_ring)) Tryz.underlying30 ?_
  refine wD2h 27 [_, _, _, _, _] [_, _, _, _, _] Tryz.call13 (vsetring0_d _ _) HM57 [] fun W59 HM60 => ?_
  refine wT [28, 29, 30, 31, 32] ?_
  refine wM 33 (.string c.key) (HM60.out.part1 4 rfl cvC_key) Tryz.underlying9 ?_
  refine wD2h 34 [_, _, _, _, _] [_, _, _, _, _] Tryz.call15 (vbag0_d _) HM60 [] fun W62 HM63 => ?_
  refine wT [35] ?_
  refine wD2 36 [_, _, _, _, _] [_, _, _, _, _] Tryz.call14 (Does.ofList (bsame_d (listT []) _ noB (vNil _) (Nat.zero_le _) _ noB (vNil _) (Nat.zero_le _))) HM63 [] fun W65 hm64 => ?_
  rw [sameB_refl]
  have HM66 := Lib.hid hm64
  clear hm64
  refine wT [37, 38, 39, 40] ?_
  refine wM 41 (.int .i64 c.n) (HM66.out.part1 4 rfl cvC_n) Tryz.underlying3 ?_
  refine wD2h 42 [_, _, _, _, _] [_, _, _, _, _] Tryz.call16 (vkeys0_d _) HM66 [] fun W68 HM69 => ?_
  have Cb6 := Mem.cell HM69.out 0 rfl
  refine wT [43, 44, 45, 46, 47, 48] ?_
  clear Cb6
  refine wR 49 (run_eqDb (b := true) (p := (0, 0)) (q := (0, 0)) (decide_eq_true rfl) rfl rfl rfl) ?_
  refine wT [50, 51, 52, 53, 54, 55, 56, 57] ?_
  refine wM 58 (.string c.key) (HM69.out.part1 4 rfl cvC_key) Tryz.underlying9 ?_
  refine wT [59] ?_
  refine wL 60 (bgC c.b.k (.slice c.vp c.vn c.vc)) (HM69.out.part 4 rfl (cvC_bag)) Tryz.underlying34 ?_
  refine wD3h 61 [_, _, _, _, _] [_, _, _, _, _] Tryz.call17 (vmerge0_d _ _ _) HM69 [] fun W71 HM72 => ?_
  refine wT [62, 63, 64, 65, 66] ?_
  refine wM 67 (.int .i64 c.n) (HM72.out.part1 4 rfl cvC_n) Tryz.underlying3 ?_
  refine wD2h 68 [_, _, _, _, _] [_, _, _, _, _] Tryz.call18 (vdrop0_d _) HM72 [] fun W74 HM75 => ?_
  refine wT [69, 70, 71, 72] ?_
  refine wD1h 73 [_, _, _, _, _] [_, _, _, _, _] Tryz.call19 (vdots0_d) HM75 [] fun W77 HM78 => ?_
  refine wT [74, 75, 76, 77] ?_
  refine wD1h 78 [_, _, _, _, _] [_, _, _, _, _] Tryz.call20 (vsync0_d) HM78 [] fun W80 HM81 => ?_
  refine wT [79, 80, 81] ?_
  refine wD0h 82 [_, _, _, _, _] [_, _, _, _, _] Tryz.call6 (vawake_d) HM81 [] fun W83 HM84 => ?_
  refine wT [83, 84] ?_
  refine wZ (wp_ret (bodyPost_ret (results_tmp rfl _ _ _) rfl ?_))
  exact does_ret (Mem.only (M := [_]) HM84.out [3] rfl) rfl rfl
end Go.Proofs.YthaabnlhhfnalaaGreat
