/- BgL: BgH, BgL. -/
import Derived.Test.YtcchkkdbagpgjaaGreatBgE
import Derived.Test.YtcchkkdbagpgjaaGreatBgN
import Derived.Test.YtcchkkdbagpgjaaGreatPA
namespace Go.Proofs.YtcchkkdbagpgjaaGreat
section
open Go Go.RowKit Go.BigFrame
set_option maxHeartbeats 4000000 in
set_option maxRecDepth 100000 in
theorem bput_d (R : At) (sa : Value) (a : Bg) (ha : Reads elemV R sa a.v) (la : a.v.length ≤ 4398046510976) (k : Nat → Int) (d1 d2 : Int) (t : ByteArray) (x : Bg) (e : Int) (hx : putBR a k (d1, d2) t = (x, e)) : DoesU Tryz.prog 63 #[bgV a.k sa, vV k, .agg #[.int .i64 d1, .int .i64 d2], .string t] [R] (fun u => [bagE u x e, R]) := by
 intro w H hp
 have HM0 := Lib.hid (mem_refl hp)
 clear hp
 obtain ⟨pa, ca, rfl⟩ := row_form (Mem.src HM0.out 0 rfl ha)
 go_enter Tryz.func63, Tryz.ntmps63
 refine wp_seq (wN [(0, 3), (1, 3), (2, 3), (3, 3), (4, 1)] ?_)
 refine wBh 0 HM0 fun b3 W2 HM4 => ?_
 refine wBh 1 HM4 fun b7 W6 HM8 => ?_
 refine wBh 2 HM8 fun b11 W10 HM12 => ?_
 refine wpS_alloc (i := 3) (dd := 8) (z := bgV noB.k (.slice none 0 0)) (cs := (bgC noB.k (.slice none 0 0)).toArray) rfl (by rfl) rfl (by kernel_rfl) rfl HM12.out covS_nil rfl ?_
 rintro b15 W14 hm13 -
 have HM16 := Lib.hid hm13
 clear hm13
 simp only [Act.put, List.setIfInBounds_toArray, List.set_cons_succ, List.set_cons_zero]
 refine wT [4] ?_
 refine wZ (wp_seq (wp_seq ?_))
 rcases put_ways5 hx with ⟨hm1, rfl, rfl⟩ | ⟨hm1, hm2, rfl, rfl⟩ | ⟨hm1, hm2, hm3, rfl, rfl⟩ | ⟨hm1, hm2, hm3, hm4, rfl, rfl⟩ | ⟨hm1, hm2, hm3, hm4, hm5, rfl, rfl⟩ | ⟨hm1, hm2, hm3, hm4, hm5, hjl, rfl, rfl⟩ | ⟨hm1, hm2, hm3, hm4, hm5, hjl, hxe, rfl⟩
 ·clear hx
  replace hm1 := Lib.hid hm1
  refine wN [(0, 1), (1, 3), (2, 1), (3, 1), (4, 1), (5, 3), (6, 1), (7, 1), (8, 1), (9, 1), (10, 3), (11, 1), (12, 1), (13, 1), (14, 1), (15, 1), (16, 1), (17, 3), (18, 1), (19, 1), (20, 1), (21, 1), (22, 1), (23, 1)] ?_
  refine wL 0 (bgC (a.k) (.slice pa a.v.length ca)) (HM16.out.part 3 rfl (bgC_all)) Tryz.underlying41 ?_
  refine wpS_does1 (i := 1) (d := some 12) (rem := [_, _, _, _]) (out := [_, _, _, _, _]) rfl (by rfl) rfl Tryz.call72 (bmay_d R _ a ha la) rfl HM16.out [4] rfl covS_nil rfl rfl ?_
  rintro W18 hm17 -
  rw [hm1.out]
  have HM19 := Lib.hid hm17
  clear hm17
  simp only [Act.put, List.setIfInBounds_toArray, List.set_cons_succ, List.set_cons_zero]
  refine wT [2, 3] ?_
  refine wK 4 ?_
  refine wK 5 ?_
  have Cb6 := Mem.cell HM19.out 2 rfl
  refine wT [6, 7, 8, 9] ?_
  clear Cb6
  refine wK 10 ?_
  refine wT [11, 12, 13, 14] ?_
  refine wK 15 ?_
  have Cb6 := Mem.cell HM19.out 2 rfl
  refine wT [16] ?_
  clear Cb6
  refine wK 17 ?_
  refine wT [18, 19, 20, 21, 22, 23] ?_
  refine wZ (wp_cond_true rfl (wp_seq (wN [(0, 1), (1, 3), (2, 1)] (wT [0] ?_))))
  refine wpS_storeA (i := 1) (L2 := [_, _, _, _]) (cs' := bgC (noB.k) (.slice none 0 0)) rfl (by rfl) rfl rfl rfl (by kernel_rfl) (bgC_one _ _ _) HM19.out 1 rfl rfl (by kernel_rfl) (by kernel_rfl) covS_nil rfl ?_
  rintro W21 hm20 -
  have HM22 := Lib.hid hm20
  clear hm20
  refine wT [2] ?_
  refine wZ (wp_ret (then_ret ?_))
  refine ret_cell_tmp rfl HM22.out 0 rfl rfl Tryz.underlying41 rfl (by kernel_rfl) rfl rfl ?_
  exact doesU_ret (post := fun u => [bagE u noB 1, R]) (Mem.toBagE (x := noB) (Mem.nilRow elemV (Mem.only (M := [_]) HM22.out [1] rfl))) rfl
 ·clear hx
  replace hm1 := Lib.hid hm1
  replace hm2 := Lib.hid hm2
  refine wN [(0, 1), (1, 3), (2, 1), (3, 1), (4, 1), (5, 3), (6, 1), (7, 1), (8, 1), (9, 1), (10, 3), (11, 1), (12, 1), (13, 1), (14, 1), (15, 1), (16, 1), (17, 3), (18, 1), (19, 1), (20, 1), (21, 1), (22, 1), (23, 1)] ?_
  refine wL 0 (bgC (a.k) (.slice pa a.v.length ca)) (HM16.out.part 3 rfl (bgC_all)) Tryz.underlying41 ?_
  refine wpS_does1 (i := 1) (d := some 12) (rem := [_, _, _, _]) (out := [_, _, _, _, _]) rfl (by rfl) rfl Tryz.call72 (bmay_d R _ a ha la) rfl HM16.out [4] rfl covS_nil rfl rfl ?_
  rintro W24 hm23 -
  rw [hm1.out]
  have HM25 := Lib.hid hm23
  clear hm23
  simp only [Act.put, List.setIfInBounds_toArray, List.set_cons_succ, List.set_cons_zero]
  refine wT [2, 3] ?_
  refine wL 4 (vcC (k)) (HM25.out.cells0 3 rfl) Tryz.underlying38 ?_
  refine wpS_does1 (i := 5) (d := some 16) (rem := [_, _, _, _, _]) (out := [_, _, _, _, _]) rfl (by rfl) rfl Tryz.call99 (cmay_d k) rfl HM25.out [] rfl covS_nil rfl rfl ?_
  rintro W27 hm26 -
  rw [hm2.out]
  have HM28 := Lib.hid hm26
  clear hm26
  simp only [Act.put, List.setIfInBounds_toArray, List.set_cons_succ, List.set_cons_zero]
  have Cb6 := Mem.cell HM28.out 2 rfl
  refine wT [6, 7, 8, 9] ?_
  clear Cb6
  refine wK 10 ?_
  refine wT [11, 12, 13, 14] ?_
  refine wK 15 ?_
  have Cb6 := Mem.cell HM28.out 2 rfl
  refine wT [16] ?_
  clear Cb6
  refine wK 17 ?_
  refine wT [18, 19, 20, 21, 22, 23] ?_
  refine wZ (wp_cond_true rfl (wp_seq (wN [(0, 1), (1, 3), (2, 1)] (wT [0] ?_))))
  refine wpS_storeA (i := 1) (L2 := [_, _, _, _]) (cs' := bgC (noB.k) (.slice none 0 0)) rfl (by rfl) rfl rfl rfl (by kernel_rfl) (bgC_one _ _ _) HM28.out 1 rfl rfl (by kernel_rfl) (by kernel_rfl) covS_nil rfl ?_
  rintro W30 hm29 -
  have HM31 := Lib.hid hm29
  clear hm29
  refine wT [2] ?_
  refine wZ (wp_ret (then_ret ?_))
  refine ret_cell_tmp rfl HM31.out 0 rfl rfl Tryz.underlying41 rfl (by kernel_rfl) rfl rfl ?_
  exact doesU_ret (post := fun u => [bagE u noB 1, R]) (Mem.toBagE (x := noB) (Mem.nilRow elemV (Mem.only (M := [_]) HM31.out [1] rfl))) rfl
 ·clear hx
  replace hm1 := Lib.hid hm1
  replace hm2 := Lib.hid hm2
  replace hm3 := Lib.hid hm3
  refine wN [(0, 1), (1, 3), (2, 1), (3, 1), (4, 1), (5, 3), (6, 1), (7, 1), (8, 1), (9, 1), (10, 3), (11, 1), (12, 1), (13, 1), (14, 1), (15, 1), (16, 1), (17, 3), (18, 1), (19, 1), (20, 1), (21, 1), (22, 1), (23, 1)] ?_
  refine wL 0 (bgC (a.k) (.slice pa a.v.length ca)) (HM16.out.part 3 rfl (bgC_all)) Tryz.underlying41 ?_
  refine wpS_does1 (i := 1) (d := some 12) (rem := [_, _, _, _]) (out := [_, _, _, _, _]) rfl (by rfl) rfl Tryz.call72 (bmay_d R _ a ha la) rfl HM16.out [4] rfl covS_nil rfl rfl ?_
  rintro W33 hm32 -
  rw [hm1.out]
  have HM34 := Lib.hid hm32
  clear hm32
  simp only [Act.put, List.setIfInBounds_toArray, List.set_cons_succ, List.set_cons_zero]
  refine wT [2, 3] ?_
  refine wL 4 (vcC (k)) (HM34.out.cells0 3 rfl) Tryz.underlying38 ?_
  refine wpS_does1 (i := 5) (d := some 16) (rem := [_, _, _, _, _]) (out := [_, _, _, _, _]) rfl (by rfl) rfl Tryz.call99 (cmay_d k) rfl HM34.out [] rfl covS_nil rfl rfl ?_
  rintro W36 hm35 -
  rw [hm2.out]
  have HM37 := Lib.hid hm35
  clear hm35
  simp only [Act.put, List.setIfInBounds_toArray, List.set_cons_succ, List.set_cons_zero]
  have Cb6 := Mem.cell HM37.out 2 rfl
  refine wT [6, 7, 8, 9] ?_
  clear Cb6
  refine wpS_does1 (i := 10) (d := some 21) (rem := [_, _, _, _, _]) (out := [_, _, _, _, _]) rfl (by rfl) rfl Tryz.call100 (bdot_d d1 d2) rfl HM37.out [] rfl covS_nil rfl rfl ?_
  rintro W39 hm38 -
  rw [hm3.out]
  have HM40 := Lib.hid hm38
  clear hm38
  simp only [Act.put, List.setIfInBounds_toArray, List.set_cons_succ, List.set_cons_zero]
  refine wT [11, 12, 13, 14] ?_
  refine wK 15 ?_
  have Cb6 := Mem.cell HM40.out 2 rfl
  refine wT [16] ?_
  clear Cb6
  refine wK 17 ?_
  refine wT [18, 19, 20, 21, 22, 23] ?_
  refine wZ (wp_cond_true rfl (wp_seq (wN [(0, 1), (1, 3), (2, 1)] (wT [0] ?_))))
  refine wpS_storeA (i := 1) (L2 := [_, _, _, _]) (cs' := bgC (noB.k) (.slice none 0 0)) rfl (by rfl) rfl rfl rfl (by kernel_rfl) (bgC_one _ _ _) HM40.out 1 rfl rfl (by kernel_rfl) (by kernel_rfl) covS_nil rfl ?_
  rintro W42 hm41 -
  have HM43 := Lib.hid hm41
  clear hm41
  refine wT [2] ?_
  refine wZ (wp_ret (then_ret ?_))
  refine ret_cell_tmp rfl HM43.out 0 rfl rfl Tryz.underlying41 rfl (by kernel_rfl) rfl rfl ?_
  exact doesU_ret (post := fun u => [bagE u noB 1, R]) (Mem.toBagE (x := noB) (Mem.nilRow elemV (Mem.only (M := [_]) HM43.out [1] rfl))) rfl
 ·clear hx
  replace hm1 := Lib.hid hm1
  replace hm2 := Lib.hid hm2
  replace hm3 := Lib.hid hm3
  replace hm4 := Lib.hid hm4
  refine wN [(0, 1), (1, 3), (2, 1), (3, 1), (4, 1), (5, 3), (6, 1), (7, 1), (8, 1), (9, 1), (10, 3), (11, 1), (12, 1), (13, 1), (14, 1), (15, 1), (16, 1), (17, 3), (18, 1), (19, 1), (20, 1), (21, 1), (22, 1), (23, 1)] ?_
  refine wL 0 (bgC (a.k) (.slice pa a.v.length ca)) (HM16.out.part 3 rfl (bgC_all)) Tryz.underlying41 ?_
  refine wpS_does1 (i := 1) (d := some 12) (rem := [_, _, _, _]) (out := [_, _, _, _, _]) rfl (by rfl) rfl Tryz.call72 (bmay_d R _ a ha la) rfl HM16.out [4] rfl covS_nil rfl rfl ?_
  rintro W45 hm44 -
  rw [hm1.out]
  have HM46 := Lib.hid hm44
  clear hm44
  simp only [Act.put, List.setIfInBounds_toArray, List.set_cons_succ, List.set_cons_zero]
  refine wT [2, 3] ?_
  refine wL 4 (vcC (k)) (HM46.out.cells0 3 rfl) Tryz.underlying38 ?_
  refine wpS_does1 (i := 5) (d := some 16) (rem := [_, _, _, _, _]) (out := [_, _, _, _, _]) rfl (by rfl) rfl Tryz.call99 (cmay_d k) rfl HM46.out [] rfl covS_nil rfl rfl ?_
  rintro W48 hm47 -
  rw [hm2.out]
  have HM49 := Lib.hid hm47
  clear hm47
  simp only [Act.put, List.setIfInBounds_toArray, List.set_cons_succ, List.set_cons_zero]
  have Cb6 := Mem.cell HM49.out 2 rfl
  refine wT [6, 7, 8, 9] ?_
  clear Cb6
  refine wpS_does1 (i := 10) (d := some 21) (rem := [_, _, _, _, _]) (out := [_, _, _, _, _]) rfl (by rfl) rfl Tryz.call100 (bdot_d d1 d2) rfl HM49.out [] rfl covS_nil rfl rfl ?_
  rintro W51 hm50 -
  rw [hm3.out]
  have HM52 := Lib.hid hm50
  clear hm50
  simp only [Act.put, List.setIfInBounds_toArray, List.set_cons_succ, List.set_cons_zero]
  refine wT [11, 12, 13, 14] ?_
  refine wL 15 (vcC (a.k)) (HM52.out.part 4 rfl (bgC_vc)) Tryz.underlying38 ?_
  have Cb6 := Mem.cell HM52.out 2 rfl
  refine wT [16] ?_
  clear Cb6
  refine wpS_does2 (i := 17) (d := some 28) (rem := [_, _, _, _, _]) (out := [_, _, _, _, _]) rfl (by rfl) rfl Tryz.call101 (chas_d a.k d1 d2) rfl rfl HM52.out [] rfl covS_nil rfl rfl ?_
  rintro W54 hm53 -
  rw [hm4.out]
  have HM55 := Lib.hid hm53
  clear hm53
  simp only [Act.put, List.setIfInBounds_toArray, List.set_cons_succ, List.set_cons_zero]
  refine wT [18, 19, 20, 21, 22, 23] ?_
  refine wZ (wp_cond_true rfl (wp_seq (wN [(0, 1), (1, 3), (2, 1)] (wT [0] ?_))))
  refine wpS_storeA (i := 1) (L2 := [_, _, _, _]) (cs' := bgC (noB.k) (.slice none 0 0)) rfl (by rfl) rfl rfl rfl (by kernel_rfl) (bgC_one _ _ _) HM55.out 1 rfl rfl (by kernel_rfl) (by kernel_rfl) covS_nil rfl ?_
  rintro W57 hm56 -
  have HM58 := Lib.hid hm56
  clear hm56
  refine wT [2] ?_
  refine wZ (wp_ret (then_ret ?_))
  refine ret_cell_tmp rfl HM58.out 0 rfl rfl Tryz.underlying41 rfl (by kernel_rfl) rfl rfl ?_
  exact doesU_ret (post := fun u => [bagE u noB 1, R]) (Mem.toBagE (x := noB) (Mem.nilRow elemV (Mem.only (M := [_]) HM58.out [1] rfl))) rfl
 ·clear hx
  have g5 : decide ((64 : Int) < (t.size : Int)) = true := decide_eq_true (by omega)
  have g5' : decide (64 < t.size) = true := decide_eq_true (by omega)
  replace hm1 := Lib.hid hm1
  replace hm2 := Lib.hid hm2
  replace hm3 := Lib.hid hm3
  replace hm4 := Lib.hid hm4
  replace hm5 := Lib.hid hm5
  refine wN [(0, 1), (1, 3), (2, 1), (3, 1), (4, 1), (5, 3), (6, 1), (7, 1), (8, 1), (9, 1), (10, 3), (11, 1), (12, 1), (13, 1), (14, 1), (15, 1), (16, 1), (17, 3), (18, 1), (19, 1), (20, 1), (21, 1), (22, 1), (23, 1)] ?_
  refine wL 0 (bgC (a.k) (.slice pa a.v.length ca)) (HM16.out.part 3 rfl (bgC_all)) Tryz.underlying41 ?_
  refine wpS_does1 (i := 1) (d := some 12) (rem := [_, _, _, _]) (out := [_, _, _, _, _]) rfl (by rfl) rfl Tryz.call72 (bmay_d R _ a ha la) rfl HM16.out [4] rfl covS_nil rfl rfl ?_
  rintro W60 hm59 -
  rw [hm1.out]
  have HM61 := Lib.hid hm59
  clear hm59
  simp only [Act.put, List.setIfInBounds_toArray, List.set_cons_succ, List.set_cons_zero]
  refine wT [2, 3] ?_
  refine wL 4 (vcC (k)) (HM61.out.cells0 3 rfl) Tryz.underlying38 ?_
  refine wpS_does1 (i := 5) (d := some 16) (rem := [_, _, _, _, _]) (out := [_, _, _, _, _]) rfl (by rfl) rfl Tryz.call99 (cmay_d k) rfl HM61.out [] rfl covS_nil rfl rfl ?_
  rintro W63 hm62 -
  rw [hm2.out]
  have HM64 := Lib.hid hm62
  clear hm62
  simp only [Act.put, List.setIfInBounds_toArray, List.set_cons_succ, List.set_cons_zero]
  have Cb6 := Mem.cell HM64.out 2 rfl
  refine wT [6, 7, 8, 9] ?_
  clear Cb6
  refine wpS_does1 (i := 10) (d := some 21) (rem := [_, _, _, _, _]) (out := [_, _, _, _, _]) rfl (by rfl) rfl Tryz.call100 (bdot_d d1 d2) rfl HM64.out [] rfl covS_nil rfl rfl ?_
  rintro W66 hm65 -
  rw [hm3.out]
  have HM67 := Lib.hid hm65
  clear hm65
  simp only [Act.put, List.setIfInBounds_toArray, List.set_cons_succ, List.set_cons_zero]
  refine wT [11, 12, 13, 14] ?_
  refine wL 15 (vcC (a.k)) (HM67.out.part 4 rfl (bgC_vc)) Tryz.underlying38 ?_
  have Cb6 := Mem.cell HM67.out 2 rfl
  refine wT [16] ?_
  clear Cb6
  refine wpS_does2 (i := 17) (d := some 28) (rem := [_, _, _, _, _]) (out := [_, _, _, _, _]) rfl (by rfl) rfl Tryz.call101 (chas_d a.k d1 d2) rfl rfl HM67.out [] rfl covS_nil rfl rfl ?_
  rintro W69 hm68 -
  rw [hm4.out]
  have HM70 := Lib.hid hm68
  clear hm68
  simp only [Act.put, List.setIfInBounds_toArray, List.set_cons_succ, List.set_cons_zero]
  refine wT [18, 19, 20, 21, 22, 23] ?_
  refine wZ (wp_cond_true rfl (wp_seq (wN [(0, 1), (1, 3), (2, 1)] (wT [0] ?_))))
  refine wpS_storeA (i := 1) (L2 := [_, _, _, _]) (cs' := bgC (noB.k) (.slice none 0 0)) rfl (by rfl) rfl rfl rfl (by kernel_rfl) (bgC_one _ _ _) HM70.out 1 rfl rfl (by kernel_rfl) (by kernel_rfl) covS_nil rfl ?_
  rintro W72 hm71 -
  have HM73 := Lib.hid hm71
  clear hm71
  refine wT [2] ?_
  refine wZ (wp_ret (then_ret ?_))
  refine ret_cell_tmp rfl HM73.out 0 rfl rfl Tryz.underlying41 rfl (by kernel_rfl) rfl rfl ?_
  exact doesU_ret (post := fun u => [bagE u noB 1, R]) (Mem.toBagE (x := noB) (Mem.nilRow elemV (Mem.only (M := [_]) HM73.out [1] rfl))) rfl
 ·clear hx
  have g5 : decide ((64 : Int) < (t.size : Int)) = false := decide_eq_false (by omega)
  have g5' : decide (64 < t.size) = false := decide_eq_false (by omega)
  replace hm1 := Lib.hid hm1
  replace hm2 := Lib.hid hm2
  replace hm3 := Lib.hid hm3
  replace hm4 := Lib.hid hm4
  replace hm5 := Lib.hid hm5
  replace hjl := Lib.hid hjl
  refine wN [(0, 1), (1, 3), (2, 1), (3, 1), (4, 1), (5, 3), (6, 1), (7, 1), (8, 1), (9, 1), (10, 3), (11, 1), (12, 1), (13, 1), (14, 1), (15, 1), (16, 1), (17, 3), (18, 1), (19, 1), (20, 1), (21, 1), (22, 1), (23, 1)] ?_
  refine wL 0 (bgC (a.k) (.slice pa a.v.length ca)) (HM16.out.part 3 rfl (bgC_all)) Tryz.underlying41 ?_
  refine wpS_does1 (i := 1) (d := some 12) (rem := [_, _, _, _]) (out := [_, _, _, _, _]) rfl (by rfl) rfl Tryz.call72 (bmay_d R _ a ha la) rfl HM16.out [4] rfl covS_nil rfl rfl ?_
  rintro W75 hm74 -
  rw [hm1.out]
  have HM76 := Lib.hid hm74
  clear hm74
  simp only [Act.put, List.setIfInBounds_toArray, List.set_cons_succ, List.set_cons_zero]
  refine wT [2, 3] ?_
  refine wL 4 (vcC (k)) (HM76.out.cells0 3 rfl) Tryz.underlying38 ?_
  refine wpS_does1 (i := 5) (d := some 16) (rem := [_, _, _, _, _]) (out := [_, _, _, _, _]) rfl (by rfl) rfl Tryz.call99 (cmay_d k) rfl HM76.out [] rfl covS_nil rfl rfl ?_
  rintro W78 hm77 -
  rw [hm2.out]
  have HM79 := Lib.hid hm77
  clear hm77
  simp only [Act.put, List.setIfInBounds_toArray, List.set_cons_succ, List.set_cons_zero]
  have Cb6 := Mem.cell HM79.out 2 rfl
  refine wT [6, 7, 8, 9] ?_
  clear Cb6
  refine wpS_does1 (i := 10) (d := some 21) (rem := [_, _, _, _, _]) (out := [_, _, _, _, _]) rfl (by rfl) rfl Tryz.call100 (bdot_d d1 d2) rfl HM79.out [] rfl covS_nil rfl rfl ?_
  rintro W81 hm80 -
  rw [hm3.out]
  have HM82 := Lib.hid hm80
  clear hm80
  simp only [Act.put, List.setIfInBounds_toArray, List.set_cons_succ, List.set_cons_zero]
  refine wT [11, 12, 13, 14] ?_
  refine wL 15 (vcC (a.k)) (HM82.out.part 4 rfl (bgC_vc)) Tryz.underlying38 ?_
  have Cb6 := Mem.cell HM82.out 2 rfl
  refine wT [16] ?_
  clear Cb6
  refine wpS_does2 (i := 17) (d := some 28) (rem := [_, _, _, _, _]) (out := [_, _, _, _, _]) rfl (by rfl) rfl Tryz.call101 (chas_d a.k d1 d2) rfl rfl HM82.out [] rfl covS_nil rfl rfl ?_
  rintro W84 hm83 -
  rw [hm4.out]
  have HM85 := Lib.hid hm83
  clear hm83
  simp only [Act.put, List.setIfInBounds_toArray, List.set_cons_succ, List.set_cons_zero]
  refine wT [18, 19, 20, 21, 22, 23] ?_
  refine wZ (wp_cond_false rfl (wp_skip (then_normal (wp_seq (wN [(0, 1), (1, 1), (2, 0), (3, 3), (4, 1)] (wT [0] ?_))))))
  refine wM 1 (.slice pa a.v.length ca) (HM85.out.part1 4 rfl bgC_sl) Tryz.underlying39 ?_
  refine wpS_funcC1 (i := 2) (d := some 38) (v1 := .pointer (some ⟨b7, 0, none⟩)) rfl (by rfl) rfl rfl rfl ?_
  simp only [Act.put, List.setIfInBounds_toArray, List.set_cons_succ, List.set_cons_zero]
  refine wpS_doesU2 (i := 3) (d := some 39) (rem := [_, _, _]) rfl (by rfl) rfl Tryz.call102 (bthose_d R (boxT b7 (.cells (vcC k).toArray 38 (0, 0))) _ a.v (fun W H h => rowAt_src (ha W H h)) (by have := (mayB_iff.1 hm1.out).len; omega) 103 (.pointer (some ⟨b7, 0, none⟩)) (fun x => !hasV k x.1) Tryz.call103 (fun x _ => bput1_d R b7 k x)) rfl rfl HM85.out [3, 0] rfl covS_nil (fun _ => rfl) rfl ?_
  rintro u88 W87 hm86 -
  obtain ⟨p1, c1, hu1⟩ := row_form (Mem.src hm86 0 rfl rowT_reads)
  subst hu1
  have hm86q := hm86
  have HM89 := Lib.hid hm86q
  clear hm86q
  simp only [Act.put, List.setIfInBounds_toArray, List.set_cons_succ, List.set_cons_zero]
  refine wT [4] ?_
  refine wZ (wp_seq ?_)
  have hpl : Hid ((leftB a k).length ≤ 32) := Lib.hid (Nat.le_trans (List.length_filter_le _ _) (mayB_iff.1 hm1.out).len)
  have hcu : Hid ((leftB a k).length ≤ c1) := Lib.hid (row_cap (Mem.src HM89.out 0 rfl rowT_reads))
  refine wN [(0, 1), (1, 1), (2, 1), (3, 1), (4, 3), (5, 1)] ?_
  have Cb6 := Mem.cell HM89.out 4 rfl
  refine wT [0, 1, 2, 3] ?_
  clear Cb6
  refine wpS_doesU2 (i := 4) (d := some 44) (rem := [_, _, _, _, _]) rfl (by rfl) rfl Tryz.call104 (bwith_d p1 c1 (leftB a k) ((d1, d2), t) ((mayB_iff.1 hm1.out).srt.sublist List.filter_sublist) (by have := hpl.out; omega) hcu.out) rfl rfl HM89.out [0] rfl covS_nil (fun _ => rfl) rfl ?_
  rintro u92 W91 hm90 -
  obtain ⟨p2, c2, hu2⟩ := row_form (Mem.src hm90 0 rfl rowT_reads)
  subst hu2
  have HM93 := Lib.hid hm90
  clear hm90
  simp only [Act.put, List.setIfInBounds_toArray, List.set_cons_succ, List.set_cons_zero]
  refine wT [5] ?_
  refine wZ (wp_seq ?_)
  have hfj : insB ((d1, d2), t) (leftB a k) = (putB a k (d1, d2) t).v := rfl
  rw [hfj] at HM93 ⊢
  have hmd : Hid ((if (putB a k (d1, d2) t).v.length ≤ 32 then Value.tuple #[bgV (withV (joinV a.k k) (d1, d2)) (.slice p2 (putB a k (d1, d2) t).v.length c2), .int .i64 0] else Value.tuple #[bgV noB.k (.slice none 0 0), .int .i64 5]) = Value.tuple #[bgV noB.k (.slice none 0 0), .int .i64 5]) := Lib.hid (if_neg hjl.out)
  refine wp_region_M (fun k => k ∈ ([b15, b3, b7, b11] : List Nat)) [(0, 1), (1, 1), (2, 1), (4, 2), (6, 0), (3, 3), (5, 3), (7, 3), (8, 1), (9, 1), (10, 4), (11, 1)] (by kernel_rfl) (by kernel_rfl) HM93.out ?_
  intro W94 hm95
  have HM96 := Lib.hid hm95
  clear hm95
  refine wT [0] ?_
  refine wL 1 (vcC (a.k)) (HM96.out.part 5 rfl (bgC_vc)) Tryz.underlying38 ?_
  refine wL 2 (vcC (k)) (HM96.out.cells0 1 rfl) Tryz.underlying38 ?_
  have Cb6 := Mem.cell HM96.out 4 rfl
  refine wS [4] ?_
  clear Cb6
  refine wA [6] ?_
  refine wpS_does2 (i := 3) (d := some 48) (rem := [_, _, _, _, _, _]) (out := [_, _, _, _, _, _]) rfl (by rfl) rfl Tryz.call107 (cjoin_d a.k k) rfl rfl HM96.out [] rfl (covS_box 3 rfl (covS_box 5 rfl (covS_box 1 rfl (covS_box 4 rfl covS_nil)))) rfl rfl ?_
  rintro W98 hm97 hg99
  have HM100 := Lib.hid hm97
  clear hm97
  simp only [Act.put, List.setIfInBounds_toArray, List.set_cons_succ, List.set_cons_zero]
  refine wpS_does2 (i := 5) (d := some 50) (rem := [_, _, _, _, _, _]) (out := [_, _, _, _, _, _]) rfl (by rfl) rfl Tryz.call106 (cwith_d (joinV a.k k) d1 d2) rfl rfl HM100.out [] rfl (covS_box 3 rfl (covS_box 5 rfl (covS_box 1 rfl (covS_box 4 rfl covS_nil)))) rfl rfl ?_
  rintro W102 hm101 hg103
  have HM104 := Lib.hid hm101
  clear hm101
  simp only [Act.put, List.setIfInBounds_toArray, List.set_cons_succ, List.set_cons_zero]
  refine wpS_does2 (i := 7) (d := some 52) (rem := [_, _, _, _, _, _]) (out := [_, _, _, _, _, _]) rfl (by rfl) rfl Tryz.call105 (bmade_d (withV (joinV a.k k) (d1, d2)) p2 _ c2) rfl rfl HM104.out [] rfl (covS_box 3 rfl (covS_box 5 rfl (covS_box 1 rfl (covS_box 4 rfl covS_nil)))) rfl rfl ?_
  rintro W106 hm105 hg107
  rw [hmd.out]
  have HM108 := Lib.hid hm105
  clear hm105
  simp only [Act.put, List.setIfInBounds_toArray, List.set_cons_succ, List.set_cons_zero]
  refine wT [8, 9] ?_
  refine wpS_storeA4 (i := 10) (L2 := [_, _, _, _, _]) (cs' := bgC (noB.k) (.slice none 0 0)) rfl (by rfl) rfl rfl rfl (by kernel_rfl) (bgC_one _ _ _) HM108.out 3 rfl rfl (by kernel_rfl) (by kernel_rfl)  rfl ?_
  rintro W111 hm110
  have HM112 := Lib.hid hm110
  clear hm110
  refine wT [11] ?_
  refine wZ (wp_ret ?_)
  refine ret_cell_tmp rfl HM112.out 0 rfl rfl Tryz.underlying41 rfl (by kernel_rfl) rfl rfl ?_
  exact doesU_ret (post := fun u => [bagE u noB 5, R]) (Mem.toBagE (x := noB) (Mem.nilRow elemV (Mem.only (M := [_]) HM112.out [3] rfl))) rfl
 ·clear hx
  have g5 : decide ((64 : Int) < (t.size : Int)) = false := decide_eq_false (by omega)
  have g5' : decide (64 < t.size) = false := decide_eq_false (by omega)
  replace hm1 := Lib.hid hm1
  replace hm2 := Lib.hid hm2
  replace hm3 := Lib.hid hm3
  replace hm4 := Lib.hid hm4
  replace hm5 := Lib.hid hm5
  replace hjl := Lib.hid hjl
  replace hxe := Lib.hid hxe
  refine wN [(0, 1), (1, 3), (2, 1), (3, 1), (4, 1), (5, 3), (6, 1), (7, 1), (8, 1), (9, 1), (10, 3), (11, 1), (12, 1), (13, 1), (14, 1), (15, 1), (16, 1), (17, 3), (18, 1), (19, 1), (20, 1), (21, 1), (22, 1), (23, 1)] ?_
  refine wL 0 (bgC (a.k) (.slice pa a.v.length ca)) (HM16.out.part 3 rfl (bgC_all)) Tryz.underlying41 ?_
  refine wpS_does1 (i := 1) (d := some 12) (rem := [_, _, _, _]) (out := [_, _, _, _, _]) rfl (by rfl) rfl Tryz.call72 (bmay_d R _ a ha la) rfl HM16.out [4] rfl covS_nil rfl rfl ?_
  rintro W114 hm113 -
  rw [hm1.out]
  have HM115 := Lib.hid hm113
  clear hm113
  simp only [Act.put, List.setIfInBounds_toArray, List.set_cons_succ, List.set_cons_zero]
  refine wT [2, 3] ?_
  refine wL 4 (vcC (k)) (HM115.out.cells0 3 rfl) Tryz.underlying38 ?_
  refine wpS_does1 (i := 5) (d := some 16) (rem := [_, _, _, _, _]) (out := [_, _, _, _, _]) rfl (by rfl) rfl Tryz.call99 (cmay_d k) rfl HM115.out [] rfl covS_nil rfl rfl ?_
  rintro W117 hm116 -
  rw [hm2.out]
  have HM118 := Lib.hid hm116
  clear hm116
  simp only [Act.put, List.setIfInBounds_toArray, List.set_cons_succ, List.set_cons_zero]
  have Cb6 := Mem.cell HM118.out 2 rfl
  refine wT [6, 7, 8, 9] ?_
  clear Cb6
  refine wpS_does1 (i := 10) (d := some 21) (rem := [_, _, _, _, _]) (out := [_, _, _, _, _]) rfl (by rfl) rfl Tryz.call100 (bdot_d d1 d2) rfl HM118.out [] rfl covS_nil rfl rfl ?_
  rintro W120 hm119 -
  rw [hm3.out]
  have HM121 := Lib.hid hm119
  clear hm119
  simp only [Act.put, List.setIfInBounds_toArray, List.set_cons_succ, List.set_cons_zero]
  refine wT [11, 12, 13, 14] ?_
  refine wL 15 (vcC (a.k)) (HM121.out.part 4 rfl (bgC_vc)) Tryz.underlying38 ?_
  have Cb6 := Mem.cell HM121.out 2 rfl
  refine wT [16] ?_
  clear Cb6
  refine wpS_does2 (i := 17) (d := some 28) (rem := [_, _, _, _, _]) (out := [_, _, _, _, _]) rfl (by rfl) rfl Tryz.call101 (chas_d a.k d1 d2) rfl rfl HM121.out [] rfl covS_nil rfl rfl ?_
  rintro W123 hm122 -
  rw [hm4.out]
  have HM124 := Lib.hid hm122
  clear hm122
  simp only [Act.put, List.setIfInBounds_toArray, List.set_cons_succ, List.set_cons_zero]
  refine wT [18, 19, 20, 21, 22, 23] ?_
  refine wZ (wp_cond_false rfl (wp_skip (then_normal (wp_seq (wN [(0, 1), (1, 1), (2, 0), (3, 3), (4, 1)] (wT [0] ?_))))))
  refine wM 1 (.slice pa a.v.length ca) (HM124.out.part1 4 rfl bgC_sl) Tryz.underlying39 ?_
  refine wpS_funcC1 (i := 2) (d := some 38) (v1 := .pointer (some ⟨b7, 0, none⟩)) rfl (by rfl) rfl rfl rfl ?_
  simp only [Act.put, List.setIfInBounds_toArray, List.set_cons_succ, List.set_cons_zero]
  refine wpS_doesU2 (i := 3) (d := some 39) (rem := [_, _, _]) rfl (by rfl) rfl Tryz.call102 (bthose_d R (boxT b7 (.cells (vcC k).toArray 38 (0, 0))) _ a.v (fun W H h => rowAt_src (ha W H h)) (by have := (mayB_iff.1 hm1.out).len; omega) 103 (.pointer (some ⟨b7, 0, none⟩)) (fun x => !hasV k x.1) Tryz.call103 (fun x _ => bput1_d R b7 k x)) rfl rfl HM124.out [3, 0] rfl covS_nil (fun _ => rfl) rfl ?_
  rintro u127 W126 hm125 -
  obtain ⟨p1, c1, hu1⟩ := row_form (Mem.src hm125 0 rfl rowT_reads)
  subst hu1
  have hm125q := hm125
  have HM128 := Lib.hid hm125q
  clear hm125q
  simp only [Act.put, List.setIfInBounds_toArray, List.set_cons_succ, List.set_cons_zero]
  refine wT [4] ?_
  refine wZ (wp_seq ?_)
  have hpl : Hid ((leftB a k).length ≤ 32) := Lib.hid (Nat.le_trans (List.length_filter_le _ _) (mayB_iff.1 hm1.out).len)
  have hcu : Hid ((leftB a k).length ≤ c1) := Lib.hid (row_cap (Mem.src HM128.out 0 rfl rowT_reads))
  refine wN [(0, 1), (1, 1), (2, 1), (3, 1), (4, 3), (5, 1)] ?_
  have Cb6 := Mem.cell HM128.out 4 rfl
  refine wT [0, 1, 2, 3] ?_
  clear Cb6
  refine wpS_doesU2 (i := 4) (d := some 44) (rem := [_, _, _, _, _]) rfl (by rfl) rfl Tryz.call104 (bwith_d p1 c1 (leftB a k) ((d1, d2), t) ((mayB_iff.1 hm1.out).srt.sublist List.filter_sublist) (by have := hpl.out; omega) hcu.out) rfl rfl HM128.out [0] rfl covS_nil (fun _ => rfl) rfl ?_
  rintro u131 W130 hm129 -
  obtain ⟨p2, c2, hu2⟩ := row_form (Mem.src hm129 0 rfl rowT_reads)
  subst hu2
  have HM132 := Lib.hid hm129
  clear hm129
  simp only [Act.put, List.setIfInBounds_toArray, List.set_cons_succ, List.set_cons_zero]
  refine wT [5] ?_
  refine wZ (wp_seq ?_)
  have hfj : insB ((d1, d2), t) (leftB a k) = (putB a k (d1, d2) t).v := rfl
  rw [hfj] at HM132 ⊢
  have hmd : Hid ((if (putB a k (d1, d2) t).v.length ≤ 32 then Value.tuple #[bgV (withV (joinV a.k k) (d1, d2)) (.slice p2 (putB a k (d1, d2) t).v.length c2), .int .i64 0] else Value.tuple #[bgV noB.k (.slice none 0 0), .int .i64 5]) = Value.tuple #[bgV (putB a k (d1, d2) t).k (.slice p2 (putB a k (d1, d2) t).v.length c2), .int .i64 0]) := Lib.hid (if_pos hjl.out)
  refine wp_region_M (fun k => k ∈ ([b15, b3, b7, b11] : List Nat)) [(0, 1), (1, 1), (2, 1), (4, 2), (6, 0), (3, 3), (5, 3), (7, 3), (8, 1), (9, 1), (10, 4), (11, 1)] (by kernel_rfl) (by kernel_rfl) HM132.out ?_
  intro W133 hm134
  have HM135 := Lib.hid hm134
  clear hm134
  refine wT [0] ?_
  refine wL 1 (vcC (a.k)) (HM135.out.part 5 rfl (bgC_vc)) Tryz.underlying38 ?_
  refine wL 2 (vcC (k)) (HM135.out.cells0 1 rfl) Tryz.underlying38 ?_
  have Cb6 := Mem.cell HM135.out 4 rfl
  refine wS [4] ?_
  clear Cb6
  refine wA [6] ?_
  refine wpS_does2 (i := 3) (d := some 48) (rem := [_, _, _, _, _, _]) (out := [_, _, _, _, _, _]) rfl (by rfl) rfl Tryz.call107 (cjoin_d a.k k) rfl rfl HM135.out [] rfl (covS_box 3 rfl (covS_box 5 rfl (covS_box 1 rfl (covS_box 4 rfl covS_nil)))) rfl rfl ?_
  rintro W137 hm136 hg138
  have HM139 := Lib.hid hm136
  clear hm136
  simp only [Act.put, List.setIfInBounds_toArray, List.set_cons_succ, List.set_cons_zero]
  refine wpS_does2 (i := 5) (d := some 50) (rem := [_, _, _, _, _, _]) (out := [_, _, _, _, _, _]) rfl (by rfl) rfl Tryz.call106 (cwith_d (joinV a.k k) d1 d2) rfl rfl HM139.out [] rfl (covS_box 3 rfl (covS_box 5 rfl (covS_box 1 rfl (covS_box 4 rfl covS_nil)))) rfl rfl ?_
  rintro W141 hm140 hg142
  have HM143 := Lib.hid hm140
  clear hm140
  simp only [Act.put, List.setIfInBounds_toArray, List.set_cons_succ, List.set_cons_zero]
  refine wpS_does2 (i := 7) (d := some 52) (rem := [_, _, _, _, _, _]) (out := [_, _, _, _, _, _]) rfl (by rfl) rfl Tryz.call105 (bmade_d (withV (joinV a.k k) (d1, d2)) p2 _ c2) rfl rfl HM143.out [] rfl (covS_box 3 rfl (covS_box 5 rfl (covS_box 1 rfl (covS_box 4 rfl covS_nil)))) rfl rfl ?_
  rintro W145 hm144 hg146
  rw [hmd.out]
  have HM147 := Lib.hid hm144
  clear hm144
  simp only [Act.put, List.setIfInBounds_toArray, List.set_cons_succ, List.set_cons_zero]
  refine wT [8, 9] ?_
  refine wpS_storeA4 (i := 10) (L2 := [_, _, _, _, _]) (cs' := bgC ((putB a k (d1, d2) t).k) (.slice p2 (putB a k (d1, d2) t).v.length c2)) rfl (by rfl) rfl rfl rfl (by kernel_rfl) (bgC_one _ _ _) HM147.out 3 rfl rfl (by kernel_rfl) (by kernel_rfl)  rfl ?_
  rintro W150 hm149
  have HM151 := Lib.hid hm149
  clear hm149
  refine wT [11] ?_
  refine wZ (wp_ret ?_)
  refine ret_cell_tmp rfl HM151.out 0 rfl rfl Tryz.underlying41 rfl (by kernel_rfl) rfl rfl ?_
  rw [hxe.out]
  exact doesU_ret (post := fun u => [bagE u (putB a k (d1, d2) t) 0, R]) (Mem.toBagE (x := (putB a k (d1, d2) t)) (Mem.only (M := [_, _]) HM151.out [1, 2] rfl)) rfl
end
end Go.Proofs.YtcchkkdbagpgjaaGreat
