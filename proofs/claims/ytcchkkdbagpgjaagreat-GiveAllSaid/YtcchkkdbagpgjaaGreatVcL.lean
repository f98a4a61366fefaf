/- VcL: VcL. -/
import Derived.Test.YtcchkkdbagpgjaaGreatQ18
import Derived.Test.YtcchkkdbagpgjaaGreatRgC
import Derived.Test.YtcchkkdbagpgjaaGreatPA
namespace Go.Proofs.YtcchkkdbagpgjaaGreat
section
open Go Go.RowKit Go.BigFrame
theorem orL_two (x y : Int) : orL [x, y] = orI x y := by
 show orI x (orI y 0) = orI x y
 rw [orI_nil]
theorem cnode_any (n : Int) (w : World) : Gives Tryz.prog 134 #[.int .i64 n] w (.bool (nodeE n)) := by
 unfold Gives
 by_cases q0 : 0 ≤ n <;> by_cases q1 : n < 8
 all_goals try (exfalso; omega)
 all_goals first | (have H : Hid (nodeE n = true) := Lib.hid (by simp [nodeE]; omega)) | (have H : Hid (nodeE n = false) := Lib.hid (by simp [nodeE]; omega))
 all_goals
  go_enter Tryz.func134, Tryz.ntmps134
  go_wp2
  all_goals go_ret
  all_goals exact ⟨by rw [H.out]; rfl, Later.ex (by repeat (first | exact ext_refl _ | refine ext_alloc ?_ _ | refine ext_later ?_ _ | refine ext_drew ?_ | refine ext_drewN ?_ _))⟩
theorem cnode_d (n : Int) : Does Tryz.prog 134 #[.int .i64 n] [] (.bool (nodeE n)) [] := Does.of_any fun w => cnode_any n w
set_option maxHeartbeats 4000000 in
set_option maxRecDepth 100000 in
theorem cmay_d (a : Nat → Int) : Does Tryz.prog 99 #[vV a] [] (.bool (mayV a)) [] := by
 intro w H hp
 have HM0 := Lib.hid (mem_refl hp)
 clear hp
 go_enter Tryz.func99, Tryz.ntmps99
 refine wp_seq (wN [(0, 3), (1, 1)] ?_)
 refine wBh 0 HM0 fun b3 W2 HM4 => ?_
 refine wT [1] ?_
 refine wZ (wp_seq (wp_seq (wN [(0, 1), (1, 1)] ?_)))
 refine wL 0 (vcC (a)) (HM4.out.cells0 0 rfl) Tryz.underlying38 ?_
 refine wT [1] ?_
 refine wZ (wp_block ?_)
 refine wp_loop_F [2, 4, 6, 7, 8, 9, 10, 11, 12, 13, 14, 15] (fun n vs W' => ∃ k : Nat, n = 8 - k ∧ vs 6 = .int .i64 (k : Int) ∧ k ≤ 8 ∧ (∀ j, j < k → numB (a j) = true) ∧ Mem [boxT b3 (.cells (vcC (a)).toArray 38 (0, 0))] H w W') (n0 := 8) ?_ ?_
 ·exact ⟨0, rfl, rfl, Nat.zero_le _, fun j h => by omega, (Mem.only (M := [_]) HM4.out [0] rfl)⟩
 rintro n vs W' ⟨k, rfl, e6, hk, hf', hm⟩
 simp only [putAll, List.map_cons, List.map_nil, Act.put, List.setIfInBounds_toArray, List.set_cons_succ, List.set_cons_zero]
 rw [e6]
 clear e6
 have hf := Lib.hid hf'
 clear hf'
 have HM5 := Lib.hid hm
 clear hm
 refine wp_seq (wQ ?_)
 refine wp_seq ?_
 refine wp_cond_split rfl (fun h6 => ?_) (fun h6 => ?_)
 ·have hk1 : k + 1 ≤ 8 := by have : (k : Int) < 8 := (by simpa using h6); omega
  clear h6
  refine wp_skip (then_normal (wp_seq (wp_block (wp_seq (wN [(0, 1), (1, 1)] ?_)))))
  refine wR 0 (run_indexV (f := a) (j := k) (show k < 8 by omega) rfl rfl rfl) ?_
  refine wT [1] ?_
  refine wZ (wp_seq ?_)
  rcases (show a k < 0 ∨ (¬ a k < 0 ∧ 1000000 < a k) ∨ (¬ a k < 0 ∧ ¬ 1000000 < a k) from by omega) with h1 | ⟨h1, h2⟩ | ⟨h1, h2⟩
  ·have g1 := decide_eq_true h1
   have hnm : Hid (numB (a k) = false) := Lib.hid (decide_eq_false (by omega))
   clear h1
   refine wQ ?_
   refine wp_cond_true rfl (wp_seq (wQ ?_))
   refine wp_ret ?_
   refine block_ret (then_ret (then_ret (block_ret (then_ret ?_))))
   refine bodyPost_ret (results_tmp rfl _ _ _) rfl ?_
   rw [mayV_no (show k < 8 by omega) hnm.out]
   exact does_ret (Mem.only (M := []) HM5.out [] rfl) rfl rfl
  ·have g1 := decide_eq_false h1
   have g2 := decide_eq_true h2
   have hnm : Hid (numB (a k) = false) := Lib.hid (decide_eq_false (by omega))
   clear h1 h2
   refine wQ ?_
   refine wp_cond_true rfl (wp_seq (wQ ?_))
   refine wp_ret ?_
   refine block_ret (then_ret (then_ret (block_ret (then_ret ?_))))
   refine bodyPost_ret (results_tmp rfl _ _ _) rfl ?_
   rw [mayV_no (show k < 8 by omega) hnm.out]
   exact does_ret (Mem.only (M := []) HM5.out [] rfl) rfl rfl
  ·have g1 := decide_eq_false h1
   have g2 := decide_eq_false h2
   have hnm : Hid (numB (a k) = true) := Lib.hid (decide_eq_true (by omega))
   clear h1 h2
   refine wQ ?_
   refine wp_cond_false rfl (wp_skip (block_normal (then_normal (wQ ?_))))
   refine ⟨by kernel_rfl, ?_⟩
   refine ⟨8 - (k + 1), by omega, k + 1, rfl, rfl, hk1, all_nextV hf.out hnm.out, (Mem.only (M := [_]) HM5.out [0] rfl)⟩
 ·have hk8 : Hid (8 ≤ k) := Lib.hid (by have : ¬ (k : Int) < 8 := (by simpa using h6); omega)
  clear h6
  refine wp_exit ?_
  refine then_exit (then_exit (block_exit ?_))
  refine then_normal (wp_seq (wQ ?_))
  refine wp_ret (bodyPost_ret (results_tmp rfl _ _ _) rfl ?_)
  rw [show mayV a = true from all8.2 fun j hj => hf.out j (by have := hk8.out; omega)]
  exact does_ret (Mem.only (M := []) HM5.out [] rfl) rfl rfl
set_option maxHeartbeats 4000000 in
set_option maxRecDepth 100000 in
theorem cjoin_d (a b : Nat → Int) : Does Tryz.prog 107 #[vV a, vV b] [] (vV (joinV a b)) [] := by
 intro w H hp
 have HM0 := Lib.hid (mem_refl hp)
 clear hp
 go_enter Tryz.func107, Tryz.ntmps107
 refine wp_seq (wN [(0, 3), (1, 3), (2, 3)] ?_)
 refine wBh 0 HM0 fun b3 W2 HM4 => ?_
 refine wBh 1 HM4 fun b7 W6 HM8 => ?_
 refine wpS_alloc (i := 2) (dd := 4) (z := vV (fun _ => 0)) (cs := (vcC (fun _ => 0)).toArray) rfl (by rfl) rfl (by kernel_rfl) rfl HM8.out covS_nil rfl ?_
 rintro b11 W10 hm9 -
 have HM12 := Lib.hid hm9
 clear hm9
 simp only [Act.put, List.setIfInBounds_toArray, List.set_cons_succ, List.set_cons_zero]
 refine wZ (wp_seq (wp_seq (wN [(0, 1), (1, 1)] ?_)))
 refine wL 0 (vcC (b)) (HM12.out.cells0 1 rfl) Tryz.underlying38 ?_
 refine wT [1] ?_
 refine wZ (wp_block ?_)
 refine wp_loop_F [5, 6, 8, 9, 10, 11, 12, 13, 14, 15, 16, 17, 18, 19] (fun n vs W' => ∃ k : Nat, n = 8 - k ∧ vs 8 = .int .i64 (k : Int) ∧ k ≤ 8 ∧ True ∧ Mem [boxT b3 (.cells (vcC (joinK a b k)).toArray 38 (0, 0)), boxT b7 (.cells (vcC (b)).toArray 38 (0, 0)), boxT b11 (.cells (vcC (fun _ => 0)).toArray 38 (0, 0))] H w W') (n0 := 8) ?_ ?_
 ·refine ⟨0, rfl, rfl, Nat.zero_le _, trivial, ?_⟩
  rw [joinK_zero]
  exact (Mem.only (M := [_, _, _]) HM12.out [2, 1, 0] rfl)
 rintro n vs W' ⟨k, rfl, e8, hk, hf', hm⟩
 simp only [putAll, List.map_cons, List.map_nil, Act.put, List.setIfInBounds_toArray, List.set_cons_succ, List.set_cons_zero]
 rw [e8]
 clear e8
 have hf := Lib.hid hf'
 clear hf'
 have HM13 := Lib.hid hm
 clear hm
 refine wp_seq (wQ ?_)
 refine wp_seq ?_
 refine wp_cond_split rfl (fun h14 => ?_) (fun h14 => ?_)
 ·have hk1 : k + 1 ≤ 8 := by have : (k : Int) < 8 := (by simpa using h14); omega
  clear h14
  refine wp_skip (then_normal (wp_seq (wp_block (wp_seq (wN [(0, 1), (1, 1), (2, 1), (3, 1)] (wT [0] ?_))))))
  refine wR 1 (run_indexV (f := b) (j := k) (show k < 8 by omega) rfl rfl rfl) ?_
  refine wT [2, 3] ?_
  refine wZ ?_
  have hmx : Hid ((if a k < b k then b k else a k) = max (a k) (b k)) := Lib.hid (by omega)
  refine wN [(0, 1), (1, 1), (2, 1), (3, 1), (4, 1), (5, 1), (6, 1), (7, 3)] (wT [0, 1] ?_)
  refine wR 2 (run_addrV (show k < 8 by omega) rfl rfl rfl) ?_
  refine wM 3 _ ((HM13.out.cellL 0 rfl _).trans (vcC_at (show k < 8 by omega))) Tryz.underlying3 ?_
  rw [joinK_at]
  refine wT [4] ?_
  refine wT [5] ?_
  rw [hmx.out]
  refine wR 6 (run_addrV (show k < 8 by omega) rfl rfl rfl) ?_
  refine wpS_store1 (i := 7) (v := .int _ _) (L2 := [_, _]) (cs' := vcC (upd (joinK a b k) k (max (a k) (b k)))) rfl (by rfl) rfl rfl rfl rfl (by kernel_rfl) rfl HM13.out 0 rfl rfl (Nat.ble_eq_true_of_le (by rw [vcC_len]; have := (show k < 8 by omega); omega)) (vcC_set (show k < 8 by omega) _) covS_nil rfl ?_
  rintro W16 hm15 -
  have HM17 := Lib.hid hm15
  clear hm15
  refine wpS_nil (block_normal (then_normal (wQ ?_)))
  refine ⟨by kernel_rfl, ?_⟩
  refine ⟨8 - (k + 1), by omega, k + 1, rfl, rfl, hk1, trivial, ?_⟩
  rw [← joinK_step]
  exact (Mem.only (M := [_, _, _]) HM17.out [0, 0, 0] rfl)
 ·have hk8 : Hid (8 ≤ k) := Lib.hid (by have : ¬ (k : Int) < 8 := (by simpa using h14); omega)
  clear h14
  refine wp_exit ?_
  refine then_exit (then_exit (block_exit ?_))
  refine then_normal (wp_seq ?_)
  rw [show k = 8 by have := hk8.out; omega, joinK_end] at HM13
  refine wN [(0, 1), (1, 3)] ?_
  refine wL 0 (vcC (joinV a b)) (HM13.out.cells0 0 rfl) Tryz.underlying38 ?_
  refine wXkh (hone := (vcC_one _)) 1 [_, _] (vcC (joinV a b)) HM13 2 fun W19 HM20 => ?_
  refine wZ (wp_ret ?_)
  refine ret_cell rfl HM20.out 0 rfl rfl Tryz.underlying38 rfl (by kernel_rfl) rfl ?_
  exact does_ret (Mem.only (M := []) HM20.out [] rfl) rfl rfl
set_option maxHeartbeats 4000000 in
set_option maxRecDepth 100000 in
theorem chas_d (a : Nat → Int) (d1 d2 : Int) : Does Tryz.prog 101 #[vV a, .agg #[.int .i64 d1, .int .i64 d2]] [] (.bool (hasV a (d1, d2))) [] := by
 intro w H hp
 have HM0 := Lib.hid (mem_refl hp)
 clear hp
 go_enter Tryz.func101, Tryz.ntmps101
 refine wp_seq (wN [(0, 3), (1, 3), (2, 1)] ?_)
 refine wBh 0 HM0 fun b3 W2 HM4 => ?_
 refine wBh 1 HM4 fun b7 W6 HM8 => ?_
 refine wT [2] ?_
 refine wZ (wp_seq ?_)
 rcases (show nodeE d1 = false ∨ (nodeE d1 = true ∧ ¬ 1 ≤ d2) ∨ (nodeE d1 = true ∧ 1 ≤ d2) from by cases nodeE d1 <;> by_cases h0 : 1 ≤ d2 <;> simp [h0]) with h1 | ⟨h1, h2⟩ | ⟨h1, h2⟩
 ·have hc : Hid (hasV a (d1, d2) = false) := Lib.hid (by unfold hasV; rw [h1]; rfl)
  replace h1 := Lib.hid h1
  refine wp_region_M (fun k => k ∈ ([b3, b7] : List Nat)) [(0, 1), (1, 1), (2, 3), (3, 1), (4, 1), (5, 1), (6, 1), (7, 1), (8, 1), (9, 1), (10, 1), (11, 1), (12, 1), (13, 1), (14, 1), (15, 1), (16, 1), (17, 1)] (by kernel_rfl) (by kernel_rfl) HM8.out ?_
  intro W9 hm10
  have HM11 := Lib.hid hm10
  clear hm10
  have Cb3 := Mem.cell HM11.out 0 rfl
  refine wT [0, 1] ?_
  clear Cb3
  refine wD1 (hS := (covS_box 1 rfl (covS_box 0 rfl covS_nil))) 2 [_, _] [_, _] Tryz.call134 (cnode_d d1) HM11 [] fun W13 hm12 => ?_
  rw [h1.out]
  have HM15 := Lib.hid hm12
  clear hm12
  have Cb3 := Mem.cell HM15.out 0 rfl
  refine wT [3, 4, 5, 6, 7, 8, 9, 10, 11, 12] ?_
  clear Cb3
  refine wK 13 ?_
  refine wK 14 ?_
  refine wT [15, 16, 17] ?_
  refine wZ (wp_ret (bodyPost_ret (results_tmp rfl _ _ _) rfl ?_))
  rw [hc.out]
  exact does_ret (Mem.only (M := []) HM15.out [] rfl) rfl rfl
 ·have g2 : decide (1 ≤ d2) = false := decide_eq_false h2
  have hc : Hid (hasV a (d1, d2) = false) := Lib.hid (by unfold hasV; rw [h1, g2]; rfl)
  clear h2
  replace h1 := Lib.hid h1
  refine wp_region_M (fun k => k ∈ ([b3, b7] : List Nat)) [(0, 1), (1, 1), (2, 3), (3, 1), (4, 1), (5, 1), (6, 1), (7, 1), (8, 1), (9, 1), (10, 1), (11, 1), (12, 1), (13, 1), (14, 1), (15, 1), (16, 1), (17, 1)] (by kernel_rfl) (by kernel_rfl) HM8.out ?_
  intro W16 hm17
  have HM18 := Lib.hid hm17
  clear hm17
  have Cb3 := Mem.cell HM18.out 0 rfl
  refine wT [0, 1] ?_
  clear Cb3
  refine wD1 (hS := (covS_box 1 rfl (covS_box 0 rfl covS_nil))) 2 [_, _] [_, _] Tryz.call134 (cnode_d d1) HM18 [] fun W20 hm19 => ?_
  rw [h1.out]
  have HM22 := Lib.hid hm19
  clear hm19
  have Cb3 := Mem.cell HM22.out 0 rfl
  refine wT [3, 4, 5, 6, 7, 8, 9, 10, 11, 12] ?_
  clear Cb3
  refine wK 13 ?_
  refine wK 14 ?_
  refine wT [15, 16, 17] ?_
  refine wZ (wp_ret (bodyPost_ret (results_tmp rfl _ _ _) rfl ?_))
  rw [hc.out]
  exact does_ret (Mem.only (M := []) HM22.out [] rfl) rfl rfl
 ·have g2 : decide (1 ≤ d2) = true := decide_eq_true h2
  have hn8 := of_decide_eq_true h1
  have hc : Hid (hasV a (d1, d2) = decide (d2 ≤ a d1.toNat)) := Lib.hid (by unfold hasV; rw [h1, g2]; rfl)
  clear h2
  replace h1 := Lib.hid h1
  refine wp_region_M (fun k => k ∈ ([b3, b7] : List Nat)) [(0, 1), (1, 1), (2, 3), (3, 1), (4, 1), (5, 1), (6, 1), (7, 1), (8, 1), (9, 1), (10, 1), (11, 1), (12, 1), (13, 1), (14, 1), (15, 1), (16, 1), (17, 1)] (by kernel_rfl) (by kernel_rfl) HM8.out ?_
  intro W23 hm24
  have HM25 := Lib.hid hm24
  clear hm24
  have Cb3 := Mem.cell HM25.out 0 rfl
  refine wT [0, 1] ?_
  clear Cb3
  refine wD1 (hS := (covS_box 1 rfl (covS_box 0 rfl covS_nil))) 2 [_, _] [_, _] Tryz.call134 (cnode_d d1) HM25 [] fun W27 hm26 => ?_
  rw [h1.out]
  have HM29 := Lib.hid hm26
  clear hm26
  have Cb3 := Mem.cell HM29.out 0 rfl
  refine wT [3, 4, 5, 6, 7, 8, 9, 10, 11, 12] ?_
  clear Cb3
  refine wR 13 (run_addrVI (hn8) rfl rfl rfl) ?_
  refine wM 14 _ ((HM29.out.cellL 1 rfl _).trans (vcC_at (show d1.toNat < 8 by omega))) Tryz.underlying3 ?_
  refine wT [15, 16, 17] ?_
  refine wZ (wp_ret (bodyPost_ret (results_tmp rfl _ _ _) rfl ?_))
  rw [hc.out]
  exact does_ret (Mem.only (M := []) HM29.out [] rfl) rfl rfl
set_option maxHeartbeats 4000000 in
set_option maxRecDepth 100000 in
theorem cwith_d (a : Nat → Int) (d1 d2 : Int) : Does Tryz.prog 106 #[vV a, .agg #[.int .i64 d1, .int .i64 d2]] [] (vV (withV a (d1, d2))) [] := by
 intro w H hp
 have HM0 := Lib.hid (mem_refl hp)
 clear hp
 go_enter Tryz.func106, Tryz.ntmps106
 refine wp_seq (wN [(0, 3), (1, 3), (2, 3)] ?_)
 refine wBh 0 HM0 fun b3 W2 HM4 => ?_
 refine wBh 1 HM4 fun b7 W6 HM8 => ?_
 refine wpS_alloc (i := 2) (dd := 4) (z := vV (fun _ => 0)) (cs := (vcC (fun _ => 0)).toArray) rfl (by rfl) rfl (by kernel_rfl) rfl HM8.out covS_nil rfl ?_
 rintro b11 W10 hm9 -
 have HM12 := Lib.hid hm9
 clear hm9
 simp only [Act.put, List.setIfInBounds_toArray, List.set_cons_succ, List.set_cons_zero]
 refine wZ (wp_seq (wp_seq ?_))
 rcases Bool.eq_false_or_eq_true (nodeE d1) with h1 | h1
 ·have hn8 := of_decide_eq_true h1
  have hc : Hid (withV a (d1, d2) = upd a d1.toNat (max (a d1.toNat) d2)) := Lib.hid (withV_in hn8)
  replace h1 := Lib.hid h1
  refine wN [(0, 1), (1, 1), (2, 3)] ?_
  have Cb3 := Mem.cell HM12.out 1 rfl
  refine wT [0, 1] ?_
  clear Cb3
  refine wD1 2 [_, _, _] [_, _, _] Tryz.call134 (cnode_d d1) HM12 [] fun W14 hm13 => ?_
  rw [h1.out]
  have HM15 := Lib.hid hm13
  clear hm13
  refine wZ (wp_cond_true rfl ?_)
  have hmx : Hid ((if a d1.toNat < d2 then d2 else a d1.toNat) = max (a d1.toNat) d2) := Lib.hid (by omega)
  refine wp_region_M (fun k => k ∈ ([] : List Nat)) [(0, 1), (1, 1), (2, 1), (3, 1), (4, 1), (5, 1), (6, 1), (7, 1), (8, 1), (9, 1), (10, 3)] (by kernel_rfl) (by kernel_rfl) HM15.out ?_
  intro W16 hm17
  have HM18 := Lib.hid hm17
  clear hm17
  have Cb3 := Mem.cell HM18.out 1 rfl
  refine wT [0, 1, 2, 3] ?_
  clear Cb3
  refine wR 4 (run_addrVI (hn8) rfl rfl rfl) ?_
  refine wM 5 _ ((HM18.out.cellL 2 rfl _).trans (vcC_at (show d1.toNat < 8 by omega))) Tryz.underlying3 ?_
  have Cb3 := Mem.cell HM18.out 1 rfl
  refine wT [6, 7] ?_
  clear Cb3
  refine wT [8] ?_
  rw [hmx.out]
  refine wR 9 (run_addrVI (hn8) rfl rfl rfl) ?_
  refine wpS_store1 (i := 10) (v := .int _ _) (L2 := [_, _]) (cs' := vcC (upd a d1.toNat (max (a d1.toNat) d2))) rfl (by rfl) rfl rfl rfl rfl (by kernel_rfl) rfl HM18.out 2 rfl rfl (Nat.ble_eq_true_of_le (by rw [vcC_len]; have := (show d1.toNat < 8 by omega); omega)) (vcC_set (show d1.toNat < 8 by omega) _) covS_nil rfl ?_
  rintro W20 hm19 -
  have HM21 := Lib.hid hm19
  clear hm19
  refine wZ (wp_seq (wN [(0, 1), (1, 3)] ?_))
  refine wL 0 (vcC (upd a d1.toNat (max (a d1.toNat) d2))) (HM21.out.cells0 0 rfl) Tryz.underlying38 ?_
  refine wXkh (hone := (vcC_one _)) 1 [_, _] (vcC (upd a d1.toNat (max (a d1.toNat) d2))) HM21 1 fun W23 HM24 => ?_
  refine wZ (wp_ret ?_)
  refine ret_cell rfl HM24.out 0 rfl rfl Tryz.underlying38 rfl (by kernel_rfl) rfl ?_
  rw [hc.out]
  exact does_ret (Mem.only (M := []) HM24.out [] rfl) rfl rfl
 ·have hc : Hid (withV a (d1, d2) = a) := Lib.hid (if_neg (by rw [h1]; simp))
  replace h1 := Lib.hid h1
  refine wN [(0, 1), (1, 1), (2, 3)] ?_
  have Cb3 := Mem.cell HM12.out 1 rfl
  refine wT [0, 1] ?_
  clear Cb3
  refine wD1 2 [_, _, _] [_, _, _] Tryz.call134 (cnode_d d1) HM12 [] fun W26 hm25 => ?_
  rw [h1.out]
  have HM27 := Lib.hid hm25
  clear hm25
  refine wZ (wp_cond_false rfl (wp_skip (then_normal (wp_seq (wN [(0, 1), (1, 3)] ?_)))))
  refine wL 0 (vcC (a)) (HM27.out.cells0 2 rfl) Tryz.underlying38 ?_
  refine wXkh (hone := (vcC_one _)) 1 [_, _] (vcC (a)) HM27 0 fun W29 HM30 => ?_
  refine wZ (wp_ret ?_)
  refine ret_cell rfl HM30.out 0 rfl rfl Tryz.underlying38 rfl (by kernel_rfl) rfl ?_
  rw [hc.out]
  exact does_ret (Mem.only (M := []) HM30.out [] rfl) rfl rfl
set_option maxHeartbeats 4000000 in
set_option maxRecDepth 100000 in
theorem ccmp_d (a1 a2 b1 b2 : Int) : Does Tryz.prog 118 #[.agg #[.int .i64 a1, .int .i64 a2], .agg #[.int .i64 b1, .int .i64 b2]] [] (.int .i64 (cmpE (a1, a2) (b1, b2))) [] := by
 intro w H hp
 have HM0 := Lib.hid (mem_refl hp)
 clear hp
 go_enter Tryz.func118, Tryz.ntmps118
 refine wp_seq (wN [(0, 3), (1, 3), (2, 1)] ?_)
 refine wBh 0 HM0 fun b3 W2 HM4 => ?_
 refine wBh 1 HM4 fun b7 W6 HM8 => ?_
 refine wT [2] ?_
 refine wZ (wp_seq ?_)
 refine wp_region_M (fun k => k ∈ ([b3, b7] : List Nat)) [(0, 1), (1, 1), (2, 1), (3, 1), (5, 0), (6, 2), (7, 0), (8, 2), (4, 3), (9, 3), (10, 3), (11, 3), (12, 1)] (by kernel_rfl) (by kernel_rfl) HM8.out ?_
 intro W9 hm10
 have HM11 := Lib.hid hm10
 clear hm10
 have Cb2 := Mem.cell HM11.out 1 rfl
 have Cb3 := Mem.cell HM11.out 0 rfl
 refine wT [0, 1, 2, 3] ?_
 clear Cb2 Cb3
 refine wA [5] ?_
 have Cb2 := Mem.cell HM11.out 1 rfl
 refine wS [6] ?_
 clear Cb2
 refine wA [7] ?_
 have Cb3 := Mem.cell HM11.out 0 rfl
 refine wS [8] ?_
 clear Cb3
 refine wD2h (hS := (covS_box 1 rfl (covS_box 0 rfl covS_nil))) 4 [_, _] [_, _] Tryz.call142 (gcmp_d a1 b1) HM11 [] fun W13 HM15 => ?_
 refine wD2h (hS := (covS_box 1 rfl (covS_box 0 rfl covS_nil))) 9 [_, _] [_, _] Tryz.call142 (gcmp_d a2 b2) HM15 [] fun W17 HM19 => ?_
 refine wpS_buildN elemI (i := 10) (dd := 15) (n := 2) (xs := [cmpI a1 b1, cmpI a2 b2]) (cs := #[.int .i64 (cmpI a1 b1), .int .i64 (cmpI a2 b2)]) rfl (by rfl) (fun _ => by kernel_rfl) rfl rfl HM19.out (covS_box 1 rfl (covS_box 0 rfl covS_nil)) rfl ?_
 rintro b23 W24 hm25 hg26
 have HM27 := Lib.hid hm25
 clear hm25
 simp only [Act.put, List.setIfInBounds_toArray, List.set_cons_succ, List.set_cons_zero]
 refine wD1h (hS := (covS_box 1 rfl (covS_box 0 rfl covS_nil))) 11 [_, _] [_, _, _] Tryz.call141 (gor_d (rowT elemI _ _) _ _ rowOwn (Nat.le_of_ble_eq_true rfl)) HM27 [0] fun W29 HM31 => ?_
 refine wT [12] ?_
 refine wZ (wp_ret (bodyPost_ret (results_tmp rfl _ _ _) rfl ?_))
 exact does_ret (Mem.only (M := []) HM31.out [] rfl) (congrArg (Value.int .i64) (orL_two _ _)) rfl
end
end Go.Proofs.YtcchkkdbagpgjaaGreat
