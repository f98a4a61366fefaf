/- Givers: GiveNil. -/
import Derived.Test.YtcchkkdbagpgjaaGreatQ07
import Derived.Test.YtcchkkdbagpgjaaGreatGvL
import Derived.Test.YtcchkkdbagpgjaaGreatPA
namespace Go.Proofs.YtcchkkdbagpgjaaGreat
open Go Go.RowKit Go.BigFrame
set_option maxHeartbeats 4000000 in
set_option maxRecDepth 100000 in
theorem gnil_d (x : Mx) (k : Int) : Does Tryz.prog 4 #[.agg x.enc.toArray, .int .i64 k] [] (.bool true) [] := by
 intro w H hp
 have HM0 := Lib.hid (mem_refl hp)
 clear hp
 go_enter Tryz.func4, Tryz.ntmps4
 refine wp_seq (wN [(0, 3), (1, 1)] ?_)
 refine wBh 0 HM0 fun b3 W2 HM4 => ?_
 refine wT [1] ?_
 refine wZ (wp_seq (wp_seq ?_))
 cases hl' : litGv [(⟨0, 0, 0, x⟩ : Cx)]
 ·have hl := Lib.hid hl'
  clear hl'
  refine wN [(0, 1), (1, 1), (2, 3), (3, 3), (4, 1)] ?_
  refine wL 0 (msC (x.m) (.slice x.vp x.vn x.vc) (.slice x.rp x.rn x.rc) (.slice x.cp x.cn x.cc)) (HM4.out.part 0 rfl (msC_all)) Tryz.underlying52 ?_
  refine wR 1 (v := .agg (cxC (⟨0, 0, 0, x⟩ : Cx)).toArray) (by kernel_rfl) ?_
  refine wpS_buildN elemCx (i := 2) (dd := 10) (n := 1) (xs := [(⟨0, 0, 0, x⟩ : Cx)]) (cs := (cxC (⟨0, 0, 0, x⟩ : Cx) ++ []).toArray) rfl (by rfl) (fun _ => by kernel_rfl) rfl rfl HM4.out covS_nil rfl ?_
  rintro b7 W8 hm9 -
  have HM10 := Lib.hid hm9
  clear hm9
  simp only [Act.put, List.setIfInBounds_toArray, List.set_cons_succ, List.set_cons_zero]
  refine wD1 3 [_] [_, _] Tryz.call9 (glight_d (rowT elemCx _ _) _ _ (fun W H h => rowAt_src (rowT_reads W H h))) HM10 [0] fun W12 hm11 => ?_
  rw [hl.out]
  have HM13 := Lib.hid hm11
  clear hm11
  refine wT [4] ?_
  refine wZ (wp_cond_true rfl (wp_seq (wN [(0, 3), (1, 1)] ?_)))
  refine wD0h 0 [_, _] [_, _] Tryz.call10 (gawake_d) HM13 [] fun W15 HM16 => ?_
  refine wT [1] ?_
  refine wZ (wp_ret (then_ret (bodyPost_ret (results_tmp rfl _ _ _) rfl ?_)))
  exact does_ret (Mem.only (M := []) HM16.out [] rfl) rfl rfl
 ·have hl := Lib.hid hl'
  clear hl'
  refine wN [(0, 1), (1, 1), (2, 3), (3, 3), (4, 1)] ?_
  refine wL 0 (msC (x.m) (.slice x.vp x.vn x.vc) (.slice x.rp x.rn x.rc) (.slice x.cp x.cn x.cc)) (HM4.out.part 0 rfl (msC_all)) Tryz.underlying52 ?_
  refine wR 1 (v := .agg (cxC (⟨0, 0, 0, x⟩ : Cx)).toArray) (by kernel_rfl) ?_
  refine wpS_buildN elemCx (i := 2) (dd := 10) (n := 1) (xs := [(⟨0, 0, 0, x⟩ : Cx)]) (cs := (cxC (⟨0, 0, 0, x⟩ : Cx) ++ []).toArray) rfl (by rfl) (fun _ => by kernel_rfl) rfl rfl HM4.out covS_nil rfl ?_
  rintro b19 W20 hm21 -
  have HM22 := Lib.hid hm21
  clear hm21
  simp only [Act.put, List.setIfInBounds_toArray, List.set_cons_succ, List.set_cons_zero]
  refine wD1 3 [_] [_, _] Tryz.call9 (glight_d (rowT elemCx _ _) _ _ (fun W H h => rowAt_src (rowT_reads W H h))) HM22 [0] fun W24 hm23 => ?_
  rw [hl.out]
  have HM25 := Lib.hid hm23
  clear hm23
  refine wT [4] ?_
  refine wZ (wp_cond_false rfl (wp_skip (then_normal (wp_seq (wQ ?_)))))
  refine wp_seq (wN [(0, 3), (1, 3), (2, 1)] ?_)
  refine wU1 0 [_, _] Tryz.call12 (lnew_d 5) HM25 [] fun u28 W27 hm26 => ?_
  obtain ⟨dl, rfl, hm26q⟩ := Mem.lgN hm26
  clear hm26
  have HM29 := Lib.hid hm26q
  clear hm26q
  refine wU1 1 [_, _] Tryz.call11 (vopen_d dl (newL 5) (LgOk.new 5)) HM29 [0] fun u32 W31 hm30 => ?_
  obtain ⟨dv, rfl, hm30q⟩ := Mem.vtN hm30
  clear hm30
  have HM33 := Lib.hid hm30q
  clear hm30q
  refine wT [2] ?_
  refine wZ (wp_seq (wN [(0, 3), (1, 1)] ?_))
  refine wU4 0 [_, _, _, _] Tryz.call15 (gvnew_d 0 3 1 1 (by decide)) HM33 [] fun u36 W35 hm34 => ?_
  obtain ⟨g, rfl, hm34q⟩ := Mem.gvN hm34
  clear hm34
  have HM37 := Lib.hid hm34q
  clear hm34q
  refine wT [1] ?_
  refine wZ (wp_seq (wN [(0, 1), (1, 1), (2, 3), (3, 1), (4, 1), (5, 1), (6, 1), (7, 1), (8, 3), (9, 3), (10, 1), (11, 1), (12, 1), (13, 1), (14, 1), (15, 3), (16, 1), (17, 1), (18, 1), (19, 1), (20, 1), (21, 1), (22, 3), (23, 1), (24, 1), (25, 1), (26, 1), (27, 3), (28, 1), (29, 1), (30, 1), (31, 1), (32, 3), (33, 1), (34, 1), (35, 1), (36, 1), (37, 3), (38, 1), (39, 1), (40, 1), (41, 1), (42, 1), (43, 3), (44, 1), (45, 1), (46, 1), (47, 1), (48, 3), (49, 1), (50, 1), (51, 1), (52, 3), (53, 1), (54, 1)] (wT [0, 1] ?_)))
  refine wD2h 2 [_, _, _, _, _, _] [_, _, _, _, _, _] Tryz.call19 (gtick0_d _) HM37 [] fun W39 HM40 => ?_
  refine wT [3, 4, 5, 6, 7] ?_
  refine wD1h 8 [_, _, _, _, _, _] [_, _, _, _, _, _] Tryz.call17 (key_d k) HM40 [] fun W42 HM43 => ?_
  refine wD2h 9 [_, _, _, _, _, _] [_, _, _, _, _, _] Tryz.call21 (gwrote0_d _) HM43 [] fun W45 HM46 => ?_
  refine wT [10, 11, 12, 13] ?_
  refine wL 14 (msC (x.m) (.slice x.vp x.vn x.vc) (.slice x.rp x.rn x.rc) (.slice x.cp x.cn x.cc)) (HM46.out.part 5 rfl (msC_all)) Tryz.underlying52 ?_
  refine wD2h 15 [_, _, _, _, _, _] [_, _, _, _, _, _] Tryz.call23 (ggot0_d _ _ _ _ _ _ _ _ _ _) HM46 [] fun W48 HM49 => ?_
  refine wT [16, 17, 18, 19] ?_
  refine wL 20 (msC (x.m) (.slice x.vp x.vn x.vc) (.slice x.rp x.rn x.rc) (.slice x.cp x.cn x.cc)) (HM49.out.part 5 rfl (msC_all)) Tryz.underlying52 ?_
  refine wT [21] ?_
  refine wD3h 22 [_, _, _, _, _, _] [_, _, _, _, _, _] Tryz.call25 (gended0_d _ _ _ _ _ _ _ _ _ _ _) HM49 [] fun W51 HM52 => ?_
  refine wT [23, 24, 25, 26] ?_
  refine wD1h 27 [_, _, _, _, _, _] [_, _, _, _, _, _] Tryz.call30 (gto0_d) HM52 [] fun W54 HM55 => ?_
  refine wT [28, 29, 30, 31] ?_
  refine wD1h 32 [_, _, _, _, _, _] [_, _, _, _, _, _] Tryz.call31 (gepoch0_d) HM55 [] fun W57 HM58 => ?_
  refine wT [33, 34, 35, 36] ?_
  refine wD1h 37 [_, _, _, _, _, _] [_, _, _, _, _, _] Tryz.call29 (gout0_d) HM58 [] fun W60 HM61 => ?_
  refine wT [38, 39, 40, 41, 42] ?_
  refine wD2h 43 [_, _, _, _, _] [_, _, _, _, _, _] Tryz.call19 (gtickn_d _ _ _) HM61 [0] fun W63 HM64 => ?_
  refine wT [44, 45, 46, 47] ?_
  refine wD4h 48 [_, _, _, _, _, _] [_, _, _, _, _, _] Tryz.call15 (gvnew0_d 1 3 1 1 (by decide)) HM64 [] fun W66 HM67 => ?_
  refine wT [49, 50, 51] ?_
  refine wD0h 52 [_, _, _, _, _, _] [_, _, _, _, _, _] Tryz.call10 (gawake_d) HM67 [] fun W69 HM70 => ?_
  refine wT [53, 54] ?_
  refine wZ (wp_ret (bodyPost_ret (results_tmp rfl _ _ _) rfl ?_))
  exact does_ret (Mem.only (M := []) HM70.out [] rfl) rfl rfl
end Go.Proofs.YtcchkkdbagpgjaaGreat
