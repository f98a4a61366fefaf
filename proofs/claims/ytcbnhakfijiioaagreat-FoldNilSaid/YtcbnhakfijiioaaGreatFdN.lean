/- Cursors: FoldNil. -/
import Derived.Test.YtcbnhakfijiioaaGreatFdY
import Derived.Test.YtcbnhakfijiioaaGreatPA
namespace Go.Proofs.YtcbnhakfijiioaaGreat
open Go Go.RowKit Go.BigFrame
set_option maxHeartbeats 4000000 in
set_option maxRecDepth 100000 in
theorem fnil_d (part k : Int) : Does Tryz.prog 4 #[.int .i64 part, .int .i64 k] [] (.bool true) [] := by
 intro w H hp
 have HM0 := Lib.hid (mem_refl hp)
 clear hp
 go_enter Tryz.func4, Tryz.ntmps4
 refine wp_seq (wQ ?_)
 refine wp_seq (wQ ?_)
 refine wp_seq (wN [(0, 3), (1, 3), (2, 1)] ?_)
 refine wU1 0 [] Tryz.call9 (lnew_d 5) HM0 [] fun u3 W2 hm1 => ?_
 obtain ⟨dl, rfl, hm1q⟩ := Mem.lgN hm1
 clear hm1
 have HM4 := Lib.hid hm1q
 clear hm1q
 refine wU1 1 [] Tryz.call8 (vopen_d dl (newL 5) (LgOk.new 5)) HM4 [0] fun u7 W6 hm5 => ?_
 obtain ⟨dv, rfl, hm5q⟩ := Mem.vtN hm5
 clear hm5
 have HM8 := Lib.hid hm5q
 clear hm5q
 refine wT [2] ?_
 refine wZ (wp_seq (wN [(0, 1), (1, 1), (2, 3), (3, 1), (4, 1), (5, 1), (6, 3), (7, 3), (8, 1)] (wT [0, 1] ?_)))
 refine wD2h 2 [_, _] [_, _] Tryz.call16 (fnext0_d _) HM8 [] fun W10 HM11 => ?_
 refine wT [3, 4, 5] ?_
 refine wpS_alloc (i := 6) (dd := 7) (z := prV ⟨#[]⟩ noB.k (.slice none 0 0)) (cs := (prC ⟨#[]⟩ noB.k (.slice none 0 0)).toArray) rfl (by rfl) rfl (by kernel_rfl) rfl HM11.out covS_nil rfl ?_
 rintro b14 W13 hm12 -
 have HM15 := Lib.hid hm12
 clear hm12
 simp only [Act.put, List.setIfInBounds_toArray, List.set_cons_succ, List.set_cons_zero]
 refine wXkh (hone := (prC_one _ _ _)) 7 [_, _] (prC ⟨#[]⟩ noB.k (.slice none 0 0)) HM15 0 fun W17 HM18 => ?_
 refine wT [8] ?_
 refine wZ (wp_seq ?_)
 obtain ⟨m, hm', hm16⟩ := mod_part part
 have hm := Lib.hid hm'
 clear hm'
 refine wN [(0, 1), (1, 1), (2, 1), (3, 1), (4, 3), (5, 1)] (wT [0, 1, 2] ?_)
 refine wT [3] ?_
 rw [hm.out]
 refine wU1 4 [_, _, _] Tryz.call12 (fnew_d (m : Int) (by omega)) HM18 [] fun u21 W20 hm19 => ?_
 obtain ⟨c, rfl, hm19q⟩ := Mem.fdN hm19
 clear hm19
 have HM22 := Lib.hid hm19q
 clear hm19q
 refine wT [5] ?_
 refine wZ (wp_seq (wN [(0, 1), (1, 3), (2, 1), (3, 1), (4, 1), (5, 3), (6, 3), (7, 1)] (wT [0] ?_)))
 refine wD2h 1 [_, _, _] [_, _, _, _] Tryz.call16 (fnextn_d c _) HM22 [0] fun W24 HM25 => ?_
 refine wT [2, 3, 4] ?_
 refine wpS_alloc (i := 5) (dd := 10) (z := prV ⟨#[]⟩ noB.k (.slice none 0 0)) (cs := (prC ⟨#[]⟩ noB.k (.slice none 0 0)).toArray) rfl (by rfl) rfl (by kernel_rfl) rfl HM25.out covS_nil rfl ?_
 rintro b28 W27 hm26 -
 have HM29 := Lib.hid hm26
 clear hm26
 simp only [Act.put, List.setIfInBounds_toArray, List.set_cons_succ, List.set_cons_zero]
 refine wXkh (hone := (prC_one _ _ _)) 6 [_, _, _, _] (prC ⟨#[]⟩ noB.k (.slice none 0 0)) HM29 0 fun W31 HM32 => ?_
 refine wT [7] ?_
 refine wZ (wp_seq (wN [(0, 1), (1, 1), (2, 1), (3, 1), (4, 1), (5, 1), (6, 1), (7, 1), (8, 1), (9, 3), (10, 3), (11, 1), (12, 1), (13, 1), (14, 1), (15, 3), (16, 1), (17, 1), (18, 1), (19, 1), (20, 1), (21, 1), (22, 3), (23, 1), (24, 1), (25, 1), (26, 3), (27, 1), (28, 1), (29, 3), (30, 1), (31, 1), (32, 1), (33, 3), (34, 1), (35, 1), (36, 1), (37, 3), (38, 1), (39, 1)] (wT [0, 1, 2, 3, 4, 5, 6, 7, 8] ?_)))
 refine wD1h 9 [_, _, _, _, _] [_, _, _, _, _] Tryz.call15 (key_d _) HM32 [] fun W34 HM35 => ?_
 refine wD2h 10 [_, _, _, _, _] [_, _, _, _, _] Tryz.call19 (fback0_d _) HM35 [] fun W37 HM38 => ?_
 refine wT [11, 12, 13, 14] ?_
 refine wD1h 15 [_, _, _, _, _] [_, _, _, _, _] Tryz.call27 (fdue0_d) HM38 [] fun W40 HM41 => ?_
 refine wT [16, 17, 18, 19, 20, 21] ?_
 refine wD2h 22 [_, _, _, _, _] [_, _, _, _, _] Tryz.call21 (fover0_d _) HM41 [] fun W43 HM44 => ?_
 refine wT [23, 24, 25] ?_
 refine wD2h 26 [_, _, _, _] [_, _, _, _, _] Tryz.call21 (fovern_d c _) HM44 [1] fun W46 HM47 => ?_
 refine wT [27, 28] ?_
 refine wD1h 29 [_, _, _, _, _] [_, _, _, _, _] Tryz.call12 (fnew0_d (-1) (by decide)) HM47 [] fun W49 HM50 => ?_
 refine wT [30, 31, 32] ?_
 refine wD1h 33 [_, _, _, _, _] [_, _, _, _, _] Tryz.call12 (fnew0_d 16 (by decide)) HM50 [] fun W52 HM53 => ?_
 refine wT [34, 35, 36] ?_
 refine wD0h 37 [_, _, _, _, _] [_, _, _, _, _] Tryz.call14 (fawake_d) HM53 [] fun W55 HM56 => ?_
 refine wT [38, 39] ?_
 refine wZ (wp_ret (bodyPost_ret (results_tmp rfl _ _ _) rfl ?_))
 exact does_ret (Mem.only (M := []) HM56.out [] rfl) rfl rfl
end Go.Proofs.YtcbnhakfijiioaaGreat
