/- The landed vault: of no vault. -/
import Derived.Test.YthaabnlhhfnalaaGreatVtX
import Derived.Test.YthaabnlhhfnalaaGreatPA
namespace Go.Proofs.YthaabnlhhfnalaaGreat
open Go Go.RowKit Go.BigFrame
set_option maxHeartbeats 4000000 in
set_option maxRecDepth 100000 in
theorem vopen0_d  : Does Tryz.prog 9 #[.pointer none] [] (.pointer none) [] := by
 intro w H hp
 have HM0 := Lib.hid (mem_refl hp)
 clear hp
 go_enter Tryz.func9, Tryz.ntmps9
 refine wp_seq (wQ ?_)
 refine wp_seq (wp_seq (wQ ?_))
 refine wp_cond_true rfl (wp_seq (wQ ?_))
 refine wp_ret (then_ret (bodyPost_ret (results_tmp rfl _ _ _) rfl ?_))
 exact does_ret (Mem.only (M := []) HM0.out [] rfl) rfl rfl
set_option maxHeartbeats 4000000 in
set_option maxRecDepth 100000 in
theorem vinc0_d  : Does Tryz.prog 10 #[.pointer none] [] (.int .i64 0) [] := by
 intro w H hp
 have HM0 := Lib.hid (mem_refl hp)
 clear hp
 go_enter Tryz.func10, Tryz.ntmps10
 refine wp_seq (wQ ?_)
 refine wp_seq (wp_seq (wQ ?_))
 refine wp_cond_true rfl (wp_seq (wQ ?_))
 refine wp_ret (then_ret (bodyPost_ret (results_tmp rfl _ _ _) rfl ?_))
 exact does_ret (Mem.only (M := []) HM0.out [] rfl) rfl rfl
set_option maxHeartbeats 4000000 in
set_option maxRecDepth 100000 in
theorem vsetinc0_d (n : Int) : Does Tryz.prog 11 #[.pointer none, .int .i64 n] [] (.int .i64 1) [] := by
 intro w H hp
 have HM0 := Lib.hid (mem_refl hp)
 clear hp
 go_enter Tryz.func11, Tryz.ntmps11
 refine wp_seq (wQ ?_)
 refine wp_seq (wp_seq (wQ ?_))
 refine wp_cond_true rfl (wp_seq (wQ ?_))
 refine wp_ret (then_ret (bodyPost_ret (results_tmp rfl _ _ _) rfl ?_))
 exact does_ret (Mem.only (M := []) HM0.out [] rfl) rfl rfl
set_option maxHeartbeats 4000000 in
set_option maxRecDepth 100000 in
theorem vring0_d  : Does Tryz.prog 7 #[.pointer none] [] (.tuple #[rgV noR (.slice none 0 0), .bool false]) [] := by
 intro w H hp
 have HM0 := Lib.hid (mem_refl hp)
 clear hp
 go_enter Tryz.func7, Tryz.ntmps7
 refine wp_seq (wN [(0, 3), (1, 1)] ?_)
 refine wpS_alloc (i := 0) (dd := 2) (z := rgV noR (.slice none 0 0)) (cs := (rgC noR (.slice none 0 0)).toArray) rfl (by rfl) rfl (by kernel_rfl) rfl HM0.out covS_nil rfl ?_
 rintro b3 W2 hm1 -
 have HM4 := Lib.hid hm1
 clear hm1
 simp only [Act.put, List.setIfInBounds_toArray, List.set_cons_succ, List.set_cons_zero]
 refine wT [1] ?_
 refine wZ (wp_seq (wp_seq (wQ ?_)))
 refine wp_cond_true rfl (wp_seq (wN [(0, 1), (1, 3), (2, 1)] ?_))
 refine wR 0 (v := rgV noR (.slice none 0 0)) (by kernel_rfl) ?_
 refine wpS_storeA (i := 1) (L2 := []) (cs' := rgC (noR) (.slice none 0 0)) rfl (by rfl) rfl rfl rfl (by kernel_rfl) (rgC_one _ _ _) HM4.out 0 rfl rfl (by kernel_rfl) (by kernel_rfl) covS_nil rfl ?_
 rintro W6 hm5 -
 have HM7 := Lib.hid hm5
 clear hm5
 refine wT [2] ?_
 refine wZ (wp_ret (then_ret ?_))
 refine ret_cell_tmp rfl HM7.out 0 rfl rfl Tryz.underlying30 rfl (by kernel_rfl) rfl rfl ?_
 exact does_ret (Mem.only (M := []) HM7.out [] rfl) rfl rfl
set_option maxHeartbeats 4000000 in
set_option maxRecDepth 100000 in
theorem vsetring0_d (r : Rg) (s : Value) : Does Tryz.prog 13 #[.pointer none, rgV r s] [] (.int .i64 1) [] := by
 intro w H hp
 have HM0 := Lib.hid (mem_refl hp)
 clear hp
 go_enter Tryz.func13, Tryz.ntmps13
 refine wp_seq (wN [(0, 3), (1, 1)] ?_)
 refine wBh 0 HM0 fun b3 W2 HM4 => ?_
 refine wT [1] ?_
 refine wZ (wp_seq (wp_seq (wQ ?_)))
 refine wp_cond_true rfl (wp_seq (wQ ?_))
 refine wp_ret (then_ret (bodyPost_ret (results_tmp rfl _ _ _) rfl ?_))
 exact does_ret (Mem.only (M := []) HM4.out [] rfl) rfl rfl
set_option maxHeartbeats 4000000 in
set_option maxRecDepth 100000 in
theorem vbag0_d (k : ByteArray) : Does Tryz.prog 15 #[.pointer none, .string k] [] (bgV noB.k (.slice none 0 0)) [] := by
 intro w H hp
 have HM0 := Lib.hid (mem_refl hp)
 clear hp
 go_enter Tryz.func15, Tryz.ntmps15
 refine wp_seq (wN [(0, 3)] ?_)
 refine wpS_alloc (i := 0) (dd := 4) (z := bgV noB.k (.slice none 0 0)) (cs := (bgC noB.k (.slice none 0 0)).toArray) rfl (by rfl) rfl (by kernel_rfl) rfl HM0.out covS_nil rfl ?_
 rintro b3 W2 hm1 -
 have HM4 := Lib.hid hm1
 clear hm1
 simp only [Act.put, List.setIfInBounds_toArray, List.set_cons_succ, List.set_cons_zero]
 refine wZ (wp_seq (wp_seq ?_))
 skip
 ·refine wN [(0, 1), (1, 1), (2, 1), (3, 1), (4, 3), (5, 1), (6, 1)] (wT [0, 1, 2, 3] ?_)
  refine wK 4 ?_
  refine wT [5, 6] ?_
  refine wZ (wp_cond_true rfl (wp_seq (wN [(0, 1), (1, 3)] (wT [0] ?_))))
  refine wpS_storeA (i := 1) (L2 := []) (cs' := bgC (noB.k) (.slice none 0 0)) rfl (by rfl) rfl rfl rfl (by kernel_rfl) (bgC_one _ _ _) HM4.out 0 rfl rfl (by kernel_rfl) (by kernel_rfl) covS_nil rfl ?_
  rintro W6 hm5 -
  have HM7 := Lib.hid hm5
  clear hm5
  refine wZ (wp_ret (then_ret ?_))
  refine ret_cell rfl HM7.out 0 rfl rfl Tryz.underlying34 rfl (by kernel_rfl) rfl ?_
  exact does_ret (Mem.only (M := []) HM7.out [] rfl) rfl rfl
set_option maxHeartbeats 4000000 in
set_option maxRecDepth 100000 in
theorem vkeys0_d (n : Int) : Does Tryz.prog 16 #[.pointer none, .int .i64 n] [] (.slice none 0 0) [] := by
 intro w H hp
 have HM0 := Lib.hid (mem_refl hp)
 clear hp
 go_enter Tryz.func16, Tryz.ntmps16
 refine wp_seq (wQ ?_)
 refine wp_seq (wp_seq ?_)
 skip
 ·refine wN [(0, 1), (1, 1), (2, 1), (3, 1), (4, 3), (5, 1), (6, 1)] (wT [0, 1, 2, 3] ?_)
  refine wK 4 ?_
  refine wT [5, 6] ?_
  refine wZ (wp_cond_true rfl (wp_seq (wQ ?_)))
  refine wp_ret (then_ret (bodyPost_ret (results_tmp rfl _ _ _) rfl ?_))
  exact does_ret (Mem.only (M := []) HM0.out [] rfl) rfl rfl
set_option maxHeartbeats 4000000 in
set_option maxRecDepth 100000 in
theorem vput0_d (node : Int) (k : ByteArray) (known : Nat → Int) (t : ByteArray) : Does Tryz.prog 8 #[.pointer none, .int .i64 node, .string k, vV known, .string t] [] (.tuple #[dV (0, 0), .int .i64 1]) [] := by
 intro w H hp
 have HM0 := Lib.hid (mem_refl hp)
 clear hp
 go_enter Tryz.func8, Tryz.ntmps8
 refine wp_seq (wN [(0, 3), (1, 3), (2, 1)] ?_)
 refine wBh 0 HM0 fun b3 W2 HM4 => ?_
 refine wpS_alloc (i := 1) (dd := 10) (z := .agg #[.int .i64 0, .int .i64 0]) (cs := #[.int .i64 0, .int .i64 0]) rfl (by rfl) rfl (by kernel_rfl) rfl HM4.out covS_nil rfl ?_
 rintro b7 W6 hm5 -
 have HM8 := Lib.hid hm5
 clear hm5
 simp only [Act.put, List.setIfInBounds_toArray, List.set_cons_succ, List.set_cons_zero]
 refine wT [2] ?_
 refine wZ (wp_seq (wp_seq ?_))
 skip
 ·refine wN [(0, 1), (1, 1), (2, 1), (3, 1), (4, 3), (5, 1), (6, 1), (7, 1), (8, 1), (9, 3), (10, 1), (11, 1)] (wT [0, 1, 2, 3] ?_)
  refine wK 4 ?_
  refine wT [5, 6, 7, 8] ?_
  refine wK 9 ?_
  refine wT [10, 11] ?_
  refine wZ (wp_cond_true rfl (wp_seq (wN [(0, 1), (1, 3), (2, 1)] (wT [0] ?_))))
  refine wpS_storeA (i := 1) (L2 := [_]) (cs' := [_, _]) rfl (by rfl) rfl rfl rfl (by kernel_rfl) (by rfl) HM8.out 0 rfl rfl rfl rfl covS_nil rfl ?_
  rintro W10 hm9 -
  have HM11 := Lib.hid hm9
  clear hm9
  refine wT [2] ?_
  refine wZ (wp_ret (then_ret ?_))
  refine ret_cell_tmp rfl HM11.out 0 rfl rfl Tryz.underlying44 rfl (by kernel_rfl) rfl rfl ?_
  exact does_ret (Mem.only (M := []) HM11.out [] rfl) rfl rfl
set_option maxHeartbeats 4000000 in
set_option maxRecDepth 100000 in
theorem vmerge0_d (k : ByteArray) (b : Bg) (s : Value) : Does Tryz.prog 17 #[.pointer none, .string k, bgV b.k s] [] (.int .i64 1) [] := by
 intro w H hp
 have HM0 := Lib.hid (mem_refl hp)
 clear hp
 go_enter Tryz.func17, Tryz.ntmps17
 refine wp_seq (wN [(0, 3), (1, 1)] ?_)
 refine wBh 0 HM0 fun b3 W2 HM4 => ?_
 refine wT [1] ?_
 refine wZ (wp_seq (wp_seq ?_))
 skip
 ·refine wN [(0, 1), (1, 1), (2, 1), (3, 1), (4, 3), (5, 1), (6, 1), (7, 1), (8, 1), (9, 3), (10, 1), (11, 1)] (wT [0, 1, 2, 3] ?_)
  refine wK 4 ?_
  refine wT [5, 6, 7] ?_
  refine wK 8 ?_
  refine wK 9 ?_
  refine wT [10, 11] ?_
  refine wZ (wp_cond_true rfl (wp_seq (wQ ?_)))
  refine wp_ret (then_ret (bodyPost_ret (results_tmp rfl _ _ _) rfl ?_))
  exact does_ret (Mem.only (M := []) HM4.out [] rfl) rfl rfl
set_option maxHeartbeats 4000000 in
set_option maxRecDepth 100000 in
theorem vdrop0_d (n : Int) : Does Tryz.prog 18 #[.pointer none, .int .i64 n] [] (.int .i64 1) [] := by
 intro w H hp
 have HM0 := Lib.hid (mem_refl hp)
 clear hp
 go_enter Tryz.func18, Tryz.ntmps18
 refine wp_seq (wQ ?_)
 refine wp_seq (wp_seq ?_)
 skip
 ·refine wN [(0, 1), (1, 1), (2, 1), (3, 1), (4, 3), (5, 1), (6, 1)] (wT [0, 1, 2, 3] ?_)
  refine wK 4 ?_
  refine wT [5, 6] ?_
  refine wZ (wp_cond_true rfl (wp_seq (wQ ?_)))
  refine wp_ret (then_ret (bodyPost_ret (results_tmp rfl _ _ _) rfl ?_))
  exact does_ret (Mem.only (M := []) HM0.out [] rfl) rfl rfl
set_option maxHeartbeats 4000000 in
set_option maxRecDepth 100000 in
theorem vdots0_d  : Does Tryz.prog 19 #[.pointer none] [] (.int .i64 0) [] := by
 intro w H hp
 have HM0 := Lib.hid (mem_refl hp)
 clear hp
 go_enter Tryz.func19, Tryz.ntmps19
 refine wp_seq (wQ ?_)
 refine wp_seq (wp_seq (wQ ?_))
 refine wp_cond_true rfl (wp_seq (wQ ?_))
 refine wp_ret (then_ret (bodyPost_ret (results_tmp rfl _ _ _) rfl ?_))
 exact does_ret (Mem.only (M := []) HM0.out [] rfl) rfl rfl
set_option maxHeartbeats 4000000 in
set_option maxRecDepth 100000 in
theorem vsync0_d  : Does Tryz.prog 20 #[.pointer none] [] (.int .i64 0) [] := by
 intro w H hp
 have HM0 := Lib.hid (mem_refl hp)
 clear hp
 go_enter Tryz.func20, Tryz.ntmps20
 refine wp_seq (wQ ?_)
 refine wp_seq (wp_seq (wQ ?_))
 refine wp_cond_true rfl (wp_seq (wQ ?_))
 refine wp_ret (then_ret (bodyPost_ret (results_tmp rfl _ _ _) rfl ?_))
 exact does_ret (Mem.only (M := []) HM0.out [] rfl) rfl rfl
end Go.Proofs.YthaabnlhhfnalaaGreat
