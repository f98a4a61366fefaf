/- RgC: RgC. -/
import Derived.Test.YtcchkkdbagpgjaaGreatRgV
import Derived.Test.YtcchkkdbagpgjaaGreatPA
namespace Go.Proofs.YtcchkkdbagpgjaaGreat
section
open Go Go.RowKit Go.BigFrame
theorem inode_any (n : Int) (w : World) : Gives Tryz.prog 192 #[.int .i64 n] w (.bool (nodeE n)) := by
 unfold Gives
 by_cases q0 : 0 ≤ n <;> by_cases q1 : n < 8
 all_goals try (exfalso; omega)
 all_goals first | (have H : Hid (nodeE n = true) := Lib.hid (by simp [nodeE]; omega)) | (have H : Hid (nodeE n = false) := Lib.hid (by simp [nodeE]; omega))
 all_goals
  go_enter Tryz.func192, Tryz.ntmps192
  go_wp2
  all_goals go_ret
  all_goals exact ⟨by rw [H.out]; rfl, Later.ex (by repeat (first | exact ext_refl _ | refine ext_alloc ?_ _ | refine ext_later ?_ _ | refine ext_drew ?_ | refine ext_drewN ?_ _))⟩
theorem inode_d (n : Int) : Does Tryz.prog 192 #[.int .i64 n] [] (.bool (nodeE n)) [] := Does.of_any fun w => inode_any n w
theorem enode_any (n : Int) (w : World) : Gives Tryz.prog 194 #[.int .i64 n] w (.bool (nodeE n)) := by
 unfold Gives
 by_cases q0 : 0 ≤ n <;> by_cases q1 : n < 8
 all_goals try (exfalso; omega)
 all_goals first | (have H : Hid (nodeE n = true) := Lib.hid (by simp [nodeE]; omega)) | (have H : Hid (nodeE n = false) := Lib.hid (by simp [nodeE]; omega))
 all_goals
  go_enter Tryz.func194, Tryz.ntmps194
  go_wp2
  all_goals go_ret
  all_goals exact ⟨by rw [H.out]; rfl, Later.ex (by repeat (first | exact ext_refl _ | refine ext_alloc ?_ _ | refine ext_later ?_ _ | refine ext_drew ?_ | refine ext_drewN ?_ _))⟩
theorem enode_d (n : Int) : Does Tryz.prog 194 #[.int .i64 n] [] (.bool (nodeE n)) [] := Does.of_any fun w => enode_any n w
set_option maxHeartbeats 4000000 in
set_option maxRecDepth 100000 in
theorem nan_d (x : Int) : Does Tryz.prog 160 #[.int .i64 x] [] (.bool false) [] := by
 intro w H hp
 have HM0 := Lib.hid (mem_refl hp)
 clear hp
 go_enter Tryz.func160, Tryz.ntmps160
 refine wp_seq ?_
 have g1 : (x != x) = false := bne_self_eq_false _
 refine wQ ?_
 refine wp_seq (wQ ?_)
 refine wp_ret (bodyPost_ret (results_tmp rfl _ _ _) rfl ?_)
 exact does_ret (Mem.only (M := []) HM0.out [] rfl) rfl rfl
set_option maxHeartbeats 4000000 in
set_option maxRecDepth 100000 in
theorem gcmp_d (x y : Int) : Does Tryz.prog 142 #[.int .i64 x, .int .i64 y] [] (.int .i64 (cmpI x y)) [] := by
 intro w H hp
 have HM0 := Lib.hid (mem_refl hp)
 clear hp
 go_enter Tryz.func142, Tryz.ntmps142
 refine wp_seq (wQ ?_)
 refine wp_seq (wN [(0, 1), (1, 3), (2, 1)] (wT [0] ?_))
 refine wD1h 1 [] [] Tryz.call160 (nan_d x) HM0 [] fun W2 HM3 => ?_
 refine wT [2] ?_
 refine wZ (wp_seq (wN [(0, 1), (1, 3), (2, 1)] (wT [0] ?_)))
 refine wD1h 1 [] [] Tryz.call160 (nan_d y) HM3 [] fun W5 HM6 => ?_
 refine wT [2] ?_
 refine wZ (wp_seq (wp_seq (wQ ?_)))
 refine wp_cond_false rfl (wp_skip (then_normal (wp_seq (wp_seq (wQ ?_)))))
 refine wp_cond_false rfl (wp_skip (then_normal (wp_seq (wp_seq ?_))))
 rcases cmpI_spec x y with ⟨h, hc⟩ | ⟨h, hc⟩ | ⟨h, hc⟩
 ·have g1 : decide (x < y) = true := decide_eq_true h
  have hc := Lib.hid hc
  refine wQ ?_
  refine wp_cond_true rfl (wp_seq (wQ ?_))
  refine wp_ret (then_ret (bodyPost_ret (results_tmp rfl _ _ _) rfl ?_))
  exact does_ret (Mem.only (M := []) HM6.out [] rfl) (congrArg (Value.int .i64) hc.out.symm) rfl
 ·have g1 : decide (x < y) = false := decide_eq_false (by omega)
  have g2 : decide (y < x) = false := decide_eq_false (by omega)
  have hc := Lib.hid hc
  refine wQ ?_
  refine wp_cond_false rfl (wp_skip (then_normal (wp_seq (wp_seq (wQ ?_)))))
  refine wp_cond_false rfl (wp_skip (then_normal (wp_seq (wQ ?_))))
  refine wp_ret (bodyPost_ret (results_tmp rfl _ _ _) rfl ?_)
  exact does_ret (Mem.only (M := []) HM6.out [] rfl) (congrArg (Value.int .i64) hc.out.symm) rfl
 ·have g1 : decide (x < y) = false := decide_eq_false (by omega)
  have g2 : decide (y < x) = true := decide_eq_true (by omega)
  have hc := Lib.hid hc
  refine wQ ?_
  refine wp_cond_false rfl (wp_skip (then_normal (wp_seq (wp_seq (wQ ?_)))))
  refine wp_cond_true rfl (wp_seq (wQ ?_))
  refine wp_ret (then_ret (bodyPost_ret (results_tmp rfl _ _ _) rfl ?_))
  exact does_ret (Mem.only (M := []) HM6.out [] rfl) (congrArg (Value.int .i64) hc.out.symm) rfl
set_option maxHeartbeats 4000000 in
set_option maxRecDepth 100000 in
theorem gor_d (R : At) (v : Value) (l : List Int) (hR : ∀ W H, R.p W H → RowAt elemI W v l) (hll : l.length ≤ 1000) : Does Tryz.prog 141 #[v] [R] (.int .i64 (orL l)) [R] := by
 intro w H hp
 have HM0 := Lib.hid (mem_refl hp)
 clear hp
 obtain ⟨p, cap, rfl, -⟩ := (HM0.out.row 0 rfl hR).form
 go_enter Tryz.func141, Tryz.ntmps141
 refine wp_seq (wQ ?_)
 refine wp_seq (wQ ?_)
 refine wp_seq (wp_seq (wQ ?_))
 refine wp_block ?_
 refine wp_loop_F [2, 5, 8, 9, 10, 11, 12, 13, 14, 15, 16] (fun n vs W' => ∃ k : Nat, n = l.length - k ∧ vs 8 = .int .i64 (k : Int) ∧ k ≤ l.length ∧ orL (l.drop k) = orL l ∧ Mem [R] H w W') (n0 := l.length) ?_ ?_
 ·exact ⟨0, rfl, rfl, Nat.zero_le _, rfl, (Mem.only (M := [_]) HM0.out [0] rfl)⟩
 rintro n vs W' ⟨k, rfl, e8, hk, hf, hm⟩
 simp only [putAll, List.map_cons, List.map_nil, Act.put, List.setIfInBounds_toArray, List.set_cons_succ, List.set_cons_zero]
 rw [e8]
 clear e8
 have hf := Lib.hid hf
 have HM1 := Lib.hid hm
 clear hm
 refine wp_seq (wQ ?_)
 refine wp_seq ?_
 refine wp_cond_split rfl (fun h2 => ?_) (fun h2 => ?_)
 ·have hk1 : k + 1 ≤ l.length := by have : (k : Int) < ((l.length : Nat) : Int) := (by simpa using h2); omega
  clear h2
  obtain ⟨x, hx'⟩ : ∃ y, l[k]? = some y := ⟨_, List.getElem?_eq_getElem (hk1)⟩
  have hx := Lib.hid hx'
  clear hx'
  refine wp_skip (then_normal (wp_seq (wp_block (wp_seq (wN [(0, 1), (1, 1), (2, 1)] ?_)))))
  refine wI elemI 0 (HM1.out.row 0 rfl hR) (hx.out) fun eb3 eo4 hc5 => ?_
  refine wM 1 (.int .i64 x) (hc5 0 _ rfl) Tryz.underlying3 ?_
  refine wT [2] ?_
  refine wZ (wp_seq ?_)
  by_cases hx0 : x = 0
  ·have g1 : (x != 0) = false := by simp [hx0]
   replace hx0 := Lib.hid hx0
   refine wQ ?_
   refine wp_cond_false rfl (wp_skip (block_normal (then_normal (wQ ?_))))
   refine ⟨by kernel_rfl, ?_⟩
   refine ⟨l.length - (k + 1), by omega, k + 1, rfl, rfl, hk1, ?_, (Mem.only (M := [_]) HM1.out [0] rfl)⟩
   rw [← hf.out, orL_step hx.out, orI_next hx0.out]
  ·have g1 : (x != 0) = true := by simp [hx0]
   replace hx0 := Lib.hid hx0
   refine wQ ?_
   refine wp_cond_true rfl (wp_seq (wQ ?_))
   refine wp_ret ?_
   refine block_ret (then_ret (then_ret (block_ret (then_ret ?_))))
   refine bodyPost_ret (results_tmp rfl _ _ _) rfl ?_
   have hc : orL l = x := by rw [← hf.out, orL_step hx.out, orI_self hx0.out]
   rw [hc]
   exact does_ret (Mem.only (M := [_]) HM1.out [0] rfl) rfl rfl
 ·have hge : Hid (l.length ≤ k) := Lib.hid (by have : ¬ (k : Int) < ((l.length : Nat) : Int) := (by simpa using h2); omega)
  clear h2
  refine wp_exit ?_
  refine then_exit (then_exit (block_exit ?_))
  refine then_normal (wp_seq (wQ ?_))
  refine wp_ret (bodyPost_ret (results_tmp rfl _ _ _) rfl ?_)
  have hc : orL l = 0 := by
    have hkl : k = l.length := by have := hge.out; omega
    rw [← hf.out, hkl, List.drop_length]
    rfl
  rw [hc]
  exact does_ret (Mem.only (M := [_]) HM1.out [0] rfl) rfl rfl
set_option maxHeartbeats 4000000 in
set_option maxRecDepth 100000 in
theorem scmp_d (R : At) (va : Value) (sa : List Int) (ha : Reads elemI R va sa) (la : sa.length ≤ 1000) (vb : Value) (sb : List Int) (hb : Reads elemI R vb sb) (_lb : sb.length ≤ 1000) : Does Tryz.prog 200 #[va, vb] [R] (.int .i64 (cmpL sa sb)) [R] := by
 intro w H hp
 have HM0 := Lib.hid (mem_refl hp)
 clear hp
 obtain ⟨pa, ca, rfl⟩ := row_form (Mem.src HM0.out 0 rfl ha)
 obtain ⟨pb, cb, rfl⟩ := row_form (Mem.src HM0.out 0 rfl hb)
 go_enter Tryz.func200, Tryz.ntmps200
 refine wp_seq (wQ ?_)
 refine wp_seq (wp_seq (wQ ?_))
 refine wp_block ?_
 refine wp_loop_F [4, 5, 6, 7, 8, 11, 12, 13, 14, 15, 16, 17, 18, 19, 20, 21, 22, 23, 24, 25, 26, 27, 28, 29, 30] (fun n vs W' => ∃ k : Nat, n = sa.length - k ∧ vs 11 = .int .i64 (k : Int) ∧ k ≤ sa.length ∧ (k ≤ sb.length ∧ cmpL (sa.drop k) (sb.drop k) = cmpL sa sb) ∧ Mem [R] H w W') (n0 := sa.length) ?_ ?_
 ·exact ⟨0, rfl, rfl, Nat.zero_le _, ⟨Nat.zero_le _, rfl⟩, (Mem.only (M := [_]) HM0.out [0] rfl)⟩
 rintro n vs W' ⟨k, rfl, e11, hk, hf, hm⟩
 simp only [putAll, List.map_cons, List.map_nil, Act.put, List.setIfInBounds_toArray, List.set_cons_succ, List.set_cons_zero]
 rw [e11]
 clear e11
 have hf := Lib.hid hf
 have HM1 := Lib.hid hm
 clear hm
 refine wp_seq (wQ ?_)
 refine wp_seq ?_
 refine wp_cond_split rfl (fun h2 => ?_) (fun h2 => ?_)
 ·have hk1 : k + 1 ≤ sa.length := by have : (k : Int) < ((sa.length : Nat) : Int) := (by simpa using h2); omega
  clear h2
  obtain ⟨x, hx'⟩ : ∃ y, sa[k]? = some y := ⟨_, List.getElem?_eq_getElem (hk1)⟩
  have hx := Lib.hid hx'
  clear hx'
  refine wp_skip (then_normal (wp_seq (wp_block (wp_seq (wN [(0, 1), (1, 1), (2, 1), (3, 1), (4, 1)] (wT [0] ?_))))))
  refine wI elemI 1 (HM1.out.row 0 rfl ha.row) (hx.out) fun eb3 eo4 hc5 => ?_
  refine wM 2 (.int .i64 x) (hc5 0 _ rfl) Tryz.underlying3 ?_
  refine wT [3, 4] ?_
  refine wZ (wp_seq (wp_seq ?_))
  by_cases hkb : sb.length ≤ k
  ·have g1 : decide (sb.length ≤ k) = true := decide_eq_true (by omega)
   replace hkb := Lib.hid hkb
   refine wQ ?_
   refine wp_cond_true rfl (wp_seq (wQ ?_))
   refine wp_ret ?_
   refine then_ret (block_ret (then_ret (then_ret (block_ret (then_ret ?_)))))
   refine bodyPost_ret (results_tmp rfl _ _ _) rfl ?_
   have hd : cmpL sa sb = 1 := by rw [← hf.out.2, cmpL_long (by omega) hkb.out]
   rw [hd]
   exact does_ret (Mem.only (M := [_]) HM1.out [0] rfl) rfl rfl
  ·have g1 : decide (sb.length ≤ k) = false := decide_eq_false (by omega)
   have hkb2 : k + 1 ≤ sb.length := by omega
   obtain ⟨y, hy'⟩ : ∃ y, sb[k]? = some y := ⟨_, List.getElem?_eq_getElem (hkb2)⟩
   have hy := Lib.hid hy'
   clear hy'
   obtain ⟨q, hq'⟩ := int_letter (cmpI x y)
   have hq := Lib.hid hq'
   clear hq'
   replace hkb := Lib.hid hkb
   refine wQ ?_
   refine wp_cond_false rfl (wp_skip (then_normal (wp_seq (wN [(0, 1), (1, 1), (2, 1), (3, 1), (4, 1)] (wT [0, 1] ?_)))))
   refine wI elemI 2 (HM1.out.row 0 rfl hb.row) (hy.out) fun eb6 eo7 hc8 => ?_
   refine wM 3 (.int .i64 y) (hc8 0 _ rfl) Tryz.underlying3 ?_
   refine wT [4] ?_
   refine wZ (wp_seq (wN [(0, 1), (1, 1), (2, 3), (3, 1)] (wT [0, 1] ?_)))
   refine wD2 2 [_] [_] Tryz.call142 (gcmp_d x y) HM1 [] fun W10 hm9 => ?_
   rw [hq.out]
   have HM11 := Lib.hid hm9
   clear hm9
   refine wT [3] ?_
   refine wZ (wp_seq ?_)
   by_cases hq0 : q = 0
   ·have g2 : (q != 0) = false := by simp [hq0]
    replace hq0 := Lib.hid hq0
    refine wQ ?_
    refine wp_cond_false rfl (wp_skip (block_normal (then_normal (wQ ?_))))
    refine ⟨by kernel_rfl, ?_⟩
    refine ⟨sa.length - (k + 1), by omega, k + 1, rfl, rfl, hk1, ?_, (Mem.only (M := [_]) HM11.out [0] rfl)⟩
    refine ⟨by have := hkb.out; omega, ?_⟩
    rw [← hf.out.2, cmpL_step hx.out hy.out, hq.out, orI_next hq0.out]
   ·have g2 : (q != 0) = true := bne_iff_ne.2 hq0
    replace hq0 := Lib.hid hq0
    refine wQ ?_
    refine wp_cond_true rfl (wp_seq (wQ ?_))
    refine wp_ret ?_
    refine block_ret (then_ret (then_ret (block_ret (then_ret ?_))))
    refine bodyPost_ret (results_tmp rfl _ _ _) rfl ?_
    have hd : cmpL sa sb = q := by rw [← hf.out.2, cmpL_step hx.out hy.out, hq.out, orI_self hq0.out]
    rw [hd]
    exact does_ret (Mem.only (M := [_]) HM11.out [0] rfl) rfl rfl
 ·have hge : Hid (sa.length ≤ k) := Lib.hid (by have : ¬ (k : Int) < ((sa.length : Nat) : Int) := (by simpa using h2); omega)
  clear h2
  refine wp_exit ?_
  refine then_exit (then_exit (block_exit ?_))
  refine then_normal (wp_seq (wp_seq ?_))
  by_cases hlt : sa.length < sb.length
  ·have g3 : decide (sa.length < sb.length) = true := decide_eq_true (by omega)
   replace hlt := Lib.hid hlt
   refine wQ ?_
   refine wp_cond_true rfl (wp_seq (wQ ?_))
   refine wp_ret (then_ret (bodyPost_ret (results_tmp rfl _ _ _) rfl ?_))
   have hd : cmpL sa sb = -1 := by rw [← hf.out.2, cmpL_end hge.out hk hf.out.1, if_pos hlt.out]
   rw [hd]
   exact does_ret (Mem.only (M := [_]) HM1.out [0] rfl) rfl rfl
  ·have g3 : decide (sa.length < sb.length) = false := decide_eq_false (by omega)
   replace hlt := Lib.hid hlt
   refine wQ ?_
   refine wp_cond_false rfl (wp_skip (then_normal (wp_seq (wQ ?_))))
   refine wp_ret (bodyPost_ret (results_tmp rfl _ _ _) rfl ?_)
   have hd : cmpL sa sb = 0 := by rw [← hf.out.2, cmpL_end hge.out hk hf.out.1, if_neg hlt.out]
   rw [hd]
   exact does_ret (Mem.only (M := [_]) HM1.out [0] rfl) rfl rfl
set_option maxHeartbeats 4000000 in
set_option maxRecDepth 100000 in
theorem compare_d (R : At) (va : Value) (a1 a2 : Int) (sa : List Int) (ha : Reads elemI R va sa) (la : sa.length ≤ 1000) (vb : Value) (b1 b2 : Int) (sb : List Int) (hb : Reads elemI R vb sb) (lb : sb.length ≤ 1000) : Does Tryz.prog 198 #[.agg #[.int .i64 a1, .int .i64 a2, va], .agg #[.int .i64 b1, .int .i64 b2, vb]] [R] (.int .i64 (cmpP (a1, a2, sa) (b1, b2, sb))) [R] := by
 intro w H hp
 have HM0 := Lib.hid (mem_refl hp)
 clear hp
 obtain ⟨pa, ca, rfl⟩ := row_form (Mem.src HM0.out 0 rfl ha)
 obtain ⟨pb, cb, rfl⟩ := row_form (Mem.src HM0.out 0 rfl hb)
 go_enter Tryz.func198, Tryz.ntmps198
 refine wp_seq (wN [(0, 3), (1, 3), (2, 1)] ?_)
 refine wBh 0 HM0 fun b3 W2 HM4 => ?_
 refine wBh 1 HM4 fun b7 W6 HM8 => ?_
 refine wT [2] ?_
 refine wZ (wp_seq ?_)
 refine wp_region_M (fun k => k ∈ ([b3, b7] : List Nat)) [(0, 1), (1, 1), (2, 1), (3, 1), (5, 0), (6, 2), (7, 0), (8, 2), (10, 0), (11, 2), (12, 0), (13, 0), (14, 2), (15, 0), (17, 0), (18, 2), (19, 0), (20, 2), (4, 3), (9, 3), (16, 3), (21, 3), (22, 3), (23, 3), (24, 1)] (by kernel_rfl) (by kernel_rfl) HM8.out ?_
 intro W9 hm10
 have HM11 := Lib.hid hm10
 clear hm10
 have Cb2 := Mem.cell HM11.out 1 rfl
 have Cb3 := Mem.cell HM11.out 0 rfl
 refine wT [0, 1, 2, 3] ?_
 clear Cb2 Cb3
 refine wA [5] ?_
 have Cb2 := Mem.cell HM11.out 1 rfl
 refine wS [6] ?_
 clear Cb2
 refine wA [7] ?_
 have Cb3 := Mem.cell HM11.out 0 rfl
 refine wS [8] ?_
 clear Cb3
 refine wA [10] ?_
 have Cb2 := Mem.cell HM11.out 1 rfl
 refine wS [11] ?_
 clear Cb2
 refine wA [12, 13] ?_
 have Cb3 := Mem.cell HM11.out 0 rfl
 refine wS [14] ?_
 clear Cb3
 refine wA [15, 17] ?_
 have Cb2 := Mem.cell HM11.out 1 rfl
 refine wS [18] ?_
 clear Cb2
 refine wA [19] ?_
 have Cb3 := Mem.cell HM11.out 0 rfl
 refine wS [20] ?_
 clear Cb3
 refine wD2h (hS := (covS_box 1 rfl (covS_box 0 rfl covS_nil))) 4 [_, _, _] [_, _, _] Tryz.call142 (gcmp_d a1 b1) HM11 [] fun W13 HM15 => ?_
 refine wD2h (hS := (covS_box 1 rfl (covS_box 0 rfl covS_nil))) 9 [_, _, _] [_, _, _] Tryz.call142 (gcmp_d a2 b2) HM15 [] fun W17 HM19 => ?_
 refine wD2h (hS := (covS_box 1 rfl (covS_box 0 rfl covS_nil))) 16 [_, _, _] [_, _, _] Tryz.call142 (gcmp_d sa.length sb.length) HM19 [] fun W21 HM23 => ?_
 refine wD2h (hS := (covS_box 1 rfl (covS_box 0 rfl covS_nil))) 21 [_, _] [_, _, _] Tryz.call200 (scmp_d R _ sa ha la _ sb hb lb) HM23 [2] fun W25 HM27 => ?_
 refine wpS_buildN elemI (i := 22) (dd := 27) (n := 4) (xs := [cmpI a1 b1, cmpI a2 b2, cmpI sa.length sb.length, cmpL sa sb]) (cs := #[.int .i64 (cmpI a1 b1), .int .i64 (cmpI a2 b2), .int .i64 (cmpI sa.length sb.length), .int .i64 (cmpL sa sb)]) rfl (by rfl) (fun _ => by kernel_rfl) rfl rfl HM27.out (covS_box 2 rfl (covS_box 1 rfl covS_nil)) rfl ?_
 rintro b31 W32 hm33 hg34
 have HM35 := Lib.hid hm33
 clear hm33
 simp only [Act.put, List.setIfInBounds_toArray, List.set_cons_succ, List.set_cons_zero]
 refine wD1h (hS := (covS_box 2 rfl (covS_box 1 rfl covS_nil))) 23 [_, _, _] [_, _, _, _] Tryz.call141 (gor_d (rowT elemI _ _) _ _ rowOwn (Nat.le_of_ble_eq_true rfl)) HM35 [0] fun W37 HM39 => ?_
 refine wT [24] ?_
 refine wZ (wp_ret (bodyPost_ret (results_tmp rfl _ _ _) rfl ?_))
 exact does_ret (Mem.only (M := [_]) HM39.out [1] rfl) (congrArg (Value.int .i64) (cmpP_or (a1, a2, sa) (b1, b2, sb))) rfl
set_option maxHeartbeats 4000000 in
set_option maxRecDepth 100000 in
theorem clone_d (R : At) (va : Value) (sa : List Int) (ha : Reads elemI R va sa) (la : sa.length ≤ 1000) : DoesU Tryz.prog 124 #[va] [R] (fun u => [rowT elemI u sa, R]) := by
 intro w H hp
 have HM0 := Lib.hid (mem_refl hp)
 clear hp
 obtain ⟨pa, ca, rfl⟩ := row_form (Mem.src HM0.out 0 rfl ha)
 go_enter Tryz.func124, Tryz.ntmps124
 refine wp_seq (wQ ?_)
 refine wp_seq (wp_seq ?_)
 rcases pa with _ | pq
 ·have hnil : sa = [] := src_nil (Mem.src HM0.out 0 rfl ha)
  subst hnil
  refine wN [(0, 1), (1, 1)] (wT [0] ?_)
  refine wR 1 (run_eqnil rfl rfl rfl) ?_
  refine wZ (wp_cond_true rfl (wp_seq (wQ ?_)))
  refine wp_ret (then_ret (bodyPost_ret (results_tmp rfl _ _ _) rfl ?_))
  exact doesU_ret (post := fun u => [rowT elemI u [], R]) (Mem.nilRow elemI (Mem.only (M := [_]) HM0.out [0] rfl)) rfl
 ·skip
  refine wN [(0, 1), (1, 1)] (wT [0] ?_)
  refine wR 1 (run_eqnil rfl rfl rfl) ?_
  refine wZ (wp_cond_false rfl (wp_skip (then_normal (wp_seq (wN [(0, 3), (1, 1), (2, 3), (3, 1)] ?_)))))
  refine wpS_buildN elemI (i := 0) (dd := 5) (n := 0) (xs := []) (cs := #[]) rfl (by rfl) (fun _ => by kernel_rfl) rfl rfl HM0.out covS_nil rfl ?_
  rintro b3 W4 hm5 -
  have HM6 := Lib.hid hm5
  clear hm5
  simp only [Act.put, List.setIfInBounds_toArray, List.set_cons_succ, List.set_cons_zero]
  refine wT [1] ?_
  refine wpS_append (E := elemI) (i := 2) (d := some 7) (L2 := [_]) rfl (by rfl) rfl HM6.out 0 rfl rfl ((HM6.out.src 1 rfl ha)) rfl (by show (0 + sa.length) * 8 ≤ _; omega) rfl covS_nil rfl ?_
  rintro v9 W10 hm11 -
  rw [List.nil_append] at hm11
  obtain ⟨vp, vc, rfl⟩ := row_form (Mem.src hm11 0 rfl rowT_reads)
  have HM12 := Lib.hid hm11
  clear hm11
  simp only [Act.put, List.setIfInBounds_toArray, List.set_cons_succ, List.set_cons_zero]
  refine wT [3] ?_
  refine wZ (wp_ret (bodyPost_ret (results_tmp rfl _ _ _) rfl ?_))
  exact doesU_ret (post := fun u => [rowT elemI u sa, R]) (Mem.only (M := [_, _]) HM12.out [0, 0] rfl) rfl
set_option maxHeartbeats 4000000 in
set_option maxRecDepth 100000 in
theorem tgt_d (R : At) (vt : Value) (st : List Int) (ht : Reads elemI R vt st) (lt : st.length ≤ 1000) : Does Tryz.prog 193 #[vt] [R] (.bool (tgtL st)) [R] := by
 intro w H hp
 have HM0 := Lib.hid (mem_refl hp)
 clear hp
 obtain ⟨pt, ct, rfl⟩ := row_form (Mem.src HM0.out 0 rfl ht)
 go_enter Tryz.func193, Tryz.ntmps193
 refine wp_seq (wQ ?_)
 refine wp_seq (wp_seq ?_)
 by_cases hl : st.length = 16
 ·have g16' : ((st.length : Int) != 16) = false := by simp; omega
  have g16n : (st.length != 16) = false := by simp; omega
  replace hl := Lib.hid hl
  refine wQ ?_
  refine wp_cond_false rfl (wp_skip (then_normal (wp_seq (wp_seq (wQ ?_)))))
  refine wp_block ?_
  refine wp_loop_F [2, 4, 10, 11, 12, 13, 14, 15, 16, 17] (fun n vs W' => ∃ k : Nat, n = st.length - k ∧ vs 10 = .int .i64 (k : Int) ∧ k ≤ st.length ∧ (st.take k).all nodeE = true ∧ Mem [R] H w W') (n0 := st.length) ?_ ?_
  ·exact ⟨0, rfl, rfl, Nat.zero_le _, rfl, (Mem.only (M := [_]) HM0.out [0] rfl)⟩
  rintro n vs W' ⟨k, rfl, e10, hk, hf, hm⟩
  simp only [putAll, List.map_cons, List.map_nil, Act.put, List.setIfInBounds_toArray, List.set_cons_succ, List.set_cons_zero]
  rw [e10]
  clear e10
  have hf := Lib.hid hf
  have HM1 := Lib.hid hm
  clear hm
  refine wp_seq (wQ ?_)
  refine wp_seq ?_
  refine wp_cond_split rfl (fun h2 => ?_) (fun h2 => ?_)
  ·have hk1 : k + 1 ≤ st.length := by have : (k : Int) < ((st.length : Nat) : Int) := (by simpa using h2); omega
   clear h2
   obtain ⟨x, hx'⟩ : ∃ y, st[k]? = some y := ⟨_, List.getElem?_eq_getElem (hk1)⟩
   have hx := Lib.hid hx'
   clear hx'
   refine wp_skip (then_normal (wp_seq (wp_block (wp_seq (wN [(0, 1), (1, 1), (2, 1)] ?_)))))
   refine wI elemI 0 (HM1.out.row 0 rfl ht.row) (hx.out) fun eb3 eo4 hc5 => ?_
   refine wM 1 (.int .i64 x) (hc5 0 _ rfl) Tryz.underlying3 ?_
   refine wT [2] ?_
   refine wZ (wp_seq ?_)
   rcases Bool.eq_false_or_eq_true (nodeE x) with hn | hn
   ·replace hn := Lib.hid hn
    refine wN [(0, 1), (1, 3), (2, 1)] (wT [0] ?_)
    refine wD1 1 [_] [_] Tryz.call192 (inode_d x) HM1 [] fun W7 hm6 => ?_
    rw [hn.out]
    have HM8 := Lib.hid hm6
    clear hm6
    refine wT [2] ?_
    refine wZ (wp_cond_false rfl (wp_skip (block_normal (then_normal (wQ ?_)))))
    refine ⟨by kernel_rfl, ?_⟩
    refine ⟨st.length - (k + 1), by omega, k + 1, rfl, rfl, hk1, ?_, (Mem.only (M := [_]) HM8.out [0] rfl)⟩
    rw [all_step hx.out, hf.out, hn.out]
    rfl
   ·replace hn := Lib.hid hn
    refine wN [(0, 1), (1, 3), (2, 1)] (wT [0] ?_)
    refine wD1 1 [_] [_] Tryz.call192 (inode_d x) HM1 [] fun W10 hm9 => ?_
    rw [hn.out]
    have HM11 := Lib.hid hm9
    clear hm9
    refine wT [2] ?_
    refine wZ (wp_cond_true rfl (wp_seq (wQ ?_)))
    refine wp_ret ?_
    refine block_ret (then_ret (then_ret (block_ret (then_ret ?_))))
    refine bodyPost_ret (results_tmp rfl _ _ _) rfl ?_
    rw [tgtL_no hx.out hn.out]
    exact does_ret (Mem.only (M := [_]) HM11.out [0] rfl) rfl rfl
  ·have hge : Hid (st.length ≤ k) := Lib.hid (by have : ¬ (k : Int) < ((st.length : Nat) : Int) := (by simpa using h2); omega)
   clear h2
   refine wp_exit ?_
   refine then_exit (then_exit (block_exit ?_))
   refine then_normal (wp_seq (wQ ?_))
   refine wp_ret (bodyPost_ret (results_tmp rfl _ _ _) rfl ?_)
   have hkl : k = st.length := by have := hge.out; omega
   subst hkl
   have hc : tgtL st = true := by
     unfold tgtL
     rw [decide_eq_true hl.out]
     have h1 := hf.out
     rw [List.take_length] at h1
     rw [h1]
     rfl
   rw [hc]
   exact does_ret (Mem.only (M := [_]) HM1.out [0] rfl) rfl rfl
 ·have g16' : ((st.length : Int) != 16) = true := by simp; omega
  have g16n : (st.length != 16) = true := by simp; omega
  replace hl := Lib.hid hl
  refine wQ ?_
  refine wp_cond_true rfl (wp_seq (wQ ?_))
  refine wp_ret (then_ret (bodyPost_ret (results_tmp rfl _ _ _) rfl ?_))
  have hc : tgtL st = false := by unfold tgtL; rw [decide_eq_false hl.out]; rfl
  rw [hc]
  exact does_ret (Mem.only (M := [_]) HM0.out [0] rfl) rfl rfl
set_option maxHeartbeats 4000000 in
set_option maxRecDepth 100000 in
theorem none_d (a1 a2 : Int) (p : Option Addr) (m c : Nat) : Does Tryz.prog 191 #[.agg #[.int .i64 a1, .int .i64 a2, .slice p m c]] [] (.bool (noneB a1 a2 m)) [] := by
 intro w H hp
 have HM0 := Lib.hid (mem_refl hp)
 clear hp
 go_enter Tryz.func191, Tryz.ntmps191
 refine wp_seq (wN [(0, 3), (1, 1)] ?_)
 refine wBh 0 HM0 fun b3 W2 HM4 => ?_
 refine wT [1] ?_
 refine wZ (wp_seq ?_)
 rcases (show a1 ≠ 0 ∨ (a1 = 0 ∧ a2 ≠ 0) ∨ (a1 = 0 ∧ a2 = 0 ∧ m ≠ 0) ∨ (a1 = 0 ∧ a2 = 0 ∧ m = 0) from by omega) with h1 | ⟨h1, h2⟩ | ⟨h1, h2, h3⟩ | ⟨h1, h2, h3⟩
 ·have g1 : (a1 == 0) = false := beq_eq_false_iff_ne.2 (by omega)
  have hc : Hid (noneB a1 a2 m = false) := Lib.hid (decide_eq_false (by omega))
  clear h1
  have Cb1 := Mem.cell HM4.out 0 rfl
  refine wQ ?_
  clear Cb1
  refine wp_ret (bodyPost_ret (results_tmp rfl _ _ _) rfl ?_)
  rw [hc.out]
  exact does_ret (Mem.only (M := []) HM4.out [] rfl) rfl rfl
 ·have g1 : (a1 == 0) = true := beq_iff_eq.2 (by omega)
  have g2 : (a2 == 0) = false := beq_eq_false_iff_ne.2 (by omega)
  have hc : Hid (noneB a1 a2 m = false) := Lib.hid (decide_eq_false (by omega))
  clear h1
  clear h2
  have Cb1 := Mem.cell HM4.out 0 rfl
  refine wQ ?_
  clear Cb1
  refine wp_ret (bodyPost_ret (results_tmp rfl _ _ _) rfl ?_)
  rw [hc.out]
  exact does_ret (Mem.only (M := []) HM4.out [] rfl) rfl rfl
 ·have g1 : (a1 == 0) = true := beq_iff_eq.2 (by omega)
  have g2 : (a2 == 0) = true := beq_iff_eq.2 (by omega)
  have g3 : ((m : Int) == 0) = false := beq_eq_false_iff_ne.2 (by omega)
  have hc : Hid (noneB a1 a2 m = false) := Lib.hid (decide_eq_false (by omega))
  clear h1
  clear h2
  clear h3
  have Cb1 := Mem.cell HM4.out 0 rfl
  refine wQ ?_
  clear Cb1
  refine wp_ret (bodyPost_ret (results_tmp rfl _ _ _) rfl ?_)
  rw [hc.out]
  exact does_ret (Mem.only (M := []) HM4.out [] rfl) rfl rfl
 ·have g1 : (a1 == 0) = true := beq_iff_eq.2 (by omega)
  have g2 : (a2 == 0) = true := beq_iff_eq.2 (by omega)
  have g3 : ((m : Int) == 0) = true := beq_iff_eq.2 (by omega)
  have hc : Hid (noneB a1 a2 m = true) := Lib.hid (decide_eq_true (by omega))
  clear h1
  clear h2
  clear h3
  have Cb1 := Mem.cell HM4.out 0 rfl
  refine wQ ?_
  clear Cb1
  refine wp_ret (bodyPost_ret (results_tmp rfl _ _ _) rfl ?_)
  rw [hc.out]
  exact does_ret (Mem.only (M := []) HM4.out [] rfl) rfl rfl
set_option maxHeartbeats 4000000 in
set_option maxRecDepth 100000 in
theorem may_d (R : At) (va : Value) (a1 a2 : Int) (sa : List Int) (ha : Reads elemI R va sa) (la : sa.length ≤ 1000) : Does Tryz.prog 177 #[.agg #[.int .i64 a1, .int .i64 a2, va]] [R] (.bool (mayP (a1, a2, sa))) [R] := by
 intro w H hp
 have HM0 := Lib.hid (mem_refl hp)
 clear hp
 obtain ⟨pa, ca, rfl⟩ := row_form (Mem.src HM0.out 0 rfl ha)
 go_enter Tryz.func177, Tryz.ntmps177
 refine wp_seq (wN [(0, 3), (1, 1)] ?_)
 refine wBh 0 HM0 fun b3 W2 HM4 => ?_
 refine wT [1] ?_
 refine wZ (wp_seq (wp_seq ?_))
 rcases may_ways a1 a2 sa with ⟨h1, h2, h3, hz, hc⟩ | ⟨h1, h2, h3, hz, hc⟩ | ⟨h1, h2, hz, hc⟩ | ⟨h1, h2, hz, hc⟩ | ⟨h1, h2, h3, hz, hc⟩ | ⟨h1, h2, h3, hn, hz, hc⟩ | ⟨h1, h2, h3, hn, hz, hc⟩
 ·have g1 : (a1 == 0) = true := beq_iff_eq.2 (by omega)
  have g2 : (a2 == 0) = true := beq_iff_eq.2 (by omega)
  have g3 : ((sa.length : Int) == 0) = true := beq_iff_eq.2 (by omega)
  replace hz := Lib.hid hz
  replace hc := Lib.hid hc
  clear h1 h2
  clear h3
  refine wN [(0, 1), (1, 3)] ?_
  have Cb1 := Mem.cell HM4.out 0 rfl
  refine wT [0] ?_
  clear Cb1
  refine wD1 1 [_, _] [_, _] Tryz.call191 (none_d a1 a2 pa sa.length ca) HM4 [] fun W6 hm5 => ?_
  rw [hz.out]
  have HM7 := Lib.hid hm5
  clear hm5
  refine wZ (wp_cond_true rfl (wp_seq (wQ ?_)))
  refine wp_ret (then_ret (bodyPost_ret (results_tmp rfl _ _ _) rfl ?_))
  rw [hc.out]
  exact does_ret (Mem.only (M := [_]) HM7.out [1] rfl) rfl rfl
 ·have g1 : (a1 == 0) = true := beq_iff_eq.2 (by omega)
  have g2 : (a2 == 0) = true := beq_iff_eq.2 (by omega)
  have g3 : ((sa.length : Int) == 0) = false := beq_eq_false_iff_ne.2 (by omega)
  have g4 : decide (1 ≤ a1) = false := decide_eq_false (by omega)
  replace hz := Lib.hid hz
  replace hc := Lib.hid hc
  clear h1 h2
  clear h3
  refine wN [(0, 1), (1, 3)] ?_
  have Cb1 := Mem.cell HM4.out 0 rfl
  refine wT [0] ?_
  clear Cb1
  refine wD1 1 [_, _] [_, _] Tryz.call191 (none_d a1 a2 pa sa.length ca) HM4 [] fun W9 hm8 => ?_
  rw [hz.out]
  have HM10 := Lib.hid hm8
  clear hm8
  refine wZ (wp_cond_false rfl (wp_skip (then_normal (wp_seq (wN [(0, 1), (1, 1), (2, 1), (3, 1), (4, 1), (5, 1), (6, 1), (7, 1), (8, 1), (9, 1), (10, 1), (11, 3), (12, 1), (13, 1), (14, 1), (15, 1), (16, 3), (17, 1), (18, 1)] ?_)))))
  have Cb1 := Mem.cell HM10.out 0 rfl
  refine wT [0, 1, 2, 3, 4, 5, 6, 7, 8, 9, 10] ?_
  clear Cb1
  refine wK 11 ?_
  have Cb1 := Mem.cell HM10.out 0 rfl
  refine wT [12, 13, 14, 15] ?_
  clear Cb1
  refine wK 16 ?_
  refine wT [17, 18] ?_
  refine wZ (wp_ret (bodyPost_ret (results_tmp rfl _ _ _) rfl ?_))
  rw [hc.out]
  exact does_ret (Mem.only (M := [_]) HM10.out [1] rfl) rfl rfl
 ·have g1 : (a1 == 0) = true := beq_iff_eq.2 (by omega)
  have g2 : (a2 == 0) = false := beq_eq_false_iff_ne.2 (by omega)
  have g4 : decide (1 ≤ a1) = false := decide_eq_false (by omega)
  replace hz := Lib.hid hz
  replace hc := Lib.hid hc
  clear h1 h2
  refine wN [(0, 1), (1, 3)] ?_
  have Cb1 := Mem.cell HM4.out 0 rfl
  refine wT [0] ?_
  clear Cb1
  refine wD1 1 [_, _] [_, _] Tryz.call191 (none_d a1 a2 pa sa.length ca) HM4 [] fun W12 hm11 => ?_
  rw [hz.out]
  have HM13 := Lib.hid hm11
  clear hm11
  refine wZ (wp_cond_false rfl (wp_skip (then_normal (wp_seq (wN [(0, 1), (1, 1), (2, 1), (3, 1), (4, 1), (5, 1), (6, 1), (7, 1), (8, 1), (9, 1), (10, 1), (11, 3), (12, 1), (13, 1), (14, 1), (15, 1), (16, 3), (17, 1), (18, 1)] ?_)))))
  have Cb1 := Mem.cell HM13.out 0 rfl
  refine wT [0, 1, 2, 3, 4, 5, 6, 7, 8, 9, 10] ?_
  clear Cb1
  refine wK 11 ?_
  have Cb1 := Mem.cell HM13.out 0 rfl
  refine wT [12, 13, 14, 15] ?_
  clear Cb1
  refine wK 16 ?_
  refine wT [17, 18] ?_
  refine wZ (wp_ret (bodyPost_ret (results_tmp rfl _ _ _) rfl ?_))
  rw [hc.out]
  exact does_ret (Mem.only (M := [_]) HM13.out [1] rfl) rfl rfl
 ·have g1 : (a1 == 0) = false := beq_eq_false_iff_ne.2 (by omega)
  have g4 : decide (1 ≤ a1) = false := decide_eq_false (by omega)
  replace hz := Lib.hid hz
  replace hc := Lib.hid hc
  clear h1 h2
  refine wN [(0, 1), (1, 3)] ?_
  have Cb1 := Mem.cell HM4.out 0 rfl
  refine wT [0] ?_
  clear Cb1
  refine wD1 1 [_, _] [_, _] Tryz.call191 (none_d a1 a2 pa sa.length ca) HM4 [] fun W15 hm14 => ?_
  rw [hz.out]
  have HM16 := Lib.hid hm14
  clear hm14
  refine wZ (wp_cond_false rfl (wp_skip (then_normal (wp_seq (wN [(0, 1), (1, 1), (2, 1), (3, 1), (4, 1), (5, 1), (6, 1), (7, 1), (8, 1), (9, 1), (10, 1), (11, 3), (12, 1), (13, 1), (14, 1), (15, 1), (16, 3), (17, 1), (18, 1)] ?_)))))
  have Cb1 := Mem.cell HM16.out 0 rfl
  refine wT [0, 1, 2, 3, 4, 5, 6, 7, 8, 9, 10] ?_
  clear Cb1
  refine wK 11 ?_
  have Cb1 := Mem.cell HM16.out 0 rfl
  refine wT [12, 13, 14, 15] ?_
  clear Cb1
  refine wK 16 ?_
  refine wT [17, 18] ?_
  refine wZ (wp_ret (bodyPost_ret (results_tmp rfl _ _ _) rfl ?_))
  rw [hc.out]
  exact does_ret (Mem.only (M := [_]) HM16.out [1] rfl) rfl rfl
 ·have g1 : (a1 == 0) = false := beq_eq_false_iff_ne.2 (by omega)
  have g4 : decide (1 ≤ a1) = true := decide_eq_true (by omega)
  have g5 : decide (a1 ≤ 1000000) = false := decide_eq_false (by omega)
  replace hz := Lib.hid hz
  replace hc := Lib.hid hc
  clear h1 h2
  clear h3
  refine wN [(0, 1), (1, 3)] ?_
  have Cb1 := Mem.cell HM4.out 0 rfl
  refine wT [0] ?_
  clear Cb1
  refine wD1 1 [_, _] [_, _] Tryz.call191 (none_d a1 a2 pa sa.length ca) HM4 [] fun W18 hm17 => ?_
  rw [hz.out]
  have HM19 := Lib.hid hm17
  clear hm17
  refine wZ (wp_cond_false rfl (wp_skip (then_normal (wp_seq (wN [(0, 1), (1, 1), (2, 1), (3, 1), (4, 1), (5, 1), (6, 1), (7, 1), (8, 1), (9, 1), (10, 1), (11, 3), (12, 1), (13, 1), (14, 1), (15, 1), (16, 3), (17, 1), (18, 1)] ?_)))))
  have Cb1 := Mem.cell HM19.out 0 rfl
  refine wT [0, 1, 2, 3, 4, 5, 6, 7, 8, 9, 10] ?_
  clear Cb1
  refine wK 11 ?_
  have Cb1 := Mem.cell HM19.out 0 rfl
  refine wT [12, 13, 14, 15] ?_
  clear Cb1
  refine wK 16 ?_
  refine wT [17, 18] ?_
  refine wZ (wp_ret (bodyPost_ret (results_tmp rfl _ _ _) rfl ?_))
  rw [hc.out]
  exact does_ret (Mem.only (M := [_]) HM19.out [1] rfl) rfl rfl
 ·have g1 : (a1 == 0) = false := beq_eq_false_iff_ne.2 (by omega)
  have g4 : decide (1 ≤ a1) = true := decide_eq_true (by omega)
  have g5 : decide (a1 ≤ 1000000) = true := decide_eq_true (by omega)
  replace hn := Lib.hid hn
  replace hz := Lib.hid hz
  replace hc := Lib.hid hc
  clear h1 h2
  clear h3
  refine wN [(0, 1), (1, 3)] ?_
  have Cb1 := Mem.cell HM4.out 0 rfl
  refine wT [0] ?_
  clear Cb1
  refine wD1 1 [_, _] [_, _] Tryz.call191 (none_d a1 a2 pa sa.length ca) HM4 [] fun W21 hm20 => ?_
  rw [hz.out]
  have HM22 := Lib.hid hm20
  clear hm20
  refine wZ (wp_cond_false rfl (wp_skip (then_normal (wp_seq (wN [(0, 1), (1, 1), (2, 1), (3, 1), (4, 1), (5, 1), (6, 1), (7, 1), (8, 1), (9, 1), (10, 1), (11, 3), (12, 1), (13, 1), (14, 1), (15, 1), (16, 3), (17, 1), (18, 1)] ?_)))))
  have Cb1 := Mem.cell HM22.out 0 rfl
  refine wT [0, 1, 2, 3, 4, 5, 6, 7, 8, 9, 10] ?_
  clear Cb1
  refine wD1 11 [_, _] [_, _] Tryz.call192 (inode_d a2) HM22 [] fun W24 hm23 => ?_
  rw [hn.out]
  have HM25 := Lib.hid hm23
  clear hm23
  have Cb1 := Mem.cell HM25.out 0 rfl
  refine wT [12, 13, 14, 15] ?_
  clear Cb1
  refine wK 16 ?_
  refine wT [17, 18] ?_
  refine wZ (wp_ret (bodyPost_ret (results_tmp rfl _ _ _) rfl ?_))
  rw [hc.out]
  exact does_ret (Mem.only (M := [_]) HM25.out [1] rfl) rfl rfl
 ·have g1 : (a1 == 0) = false := beq_eq_false_iff_ne.2 (by omega)
  have g4 : decide (1 ≤ a1) = true := decide_eq_true (by omega)
  have g5 : decide (a1 ≤ 1000000) = true := decide_eq_true (by omega)
  replace hn := Lib.hid hn
  replace hz := Lib.hid hz
  replace hc := Lib.hid hc
  clear h1 h2
  clear h3
  refine wN [(0, 1), (1, 3)] ?_
  have Cb1 := Mem.cell HM4.out 0 rfl
  refine wT [0] ?_
  clear Cb1
  refine wD1 1 [_, _] [_, _] Tryz.call191 (none_d a1 a2 pa sa.length ca) HM4 [] fun W27 hm26 => ?_
  rw [hz.out]
  have HM28 := Lib.hid hm26
  clear hm26
  refine wZ (wp_cond_false rfl (wp_skip (then_normal (wp_seq (wN [(0, 1), (1, 1), (2, 1), (3, 1), (4, 1), (5, 1), (6, 1), (7, 1), (8, 1), (9, 1), (10, 1), (11, 3), (12, 1), (13, 1), (14, 1), (15, 1), (16, 3), (17, 1), (18, 1)] ?_)))))
  have Cb1 := Mem.cell HM28.out 0 rfl
  refine wT [0, 1, 2, 3, 4, 5, 6, 7, 8, 9, 10] ?_
  clear Cb1
  refine wD1 11 [_, _] [_, _] Tryz.call192 (inode_d a2) HM28 [] fun W30 hm29 => ?_
  rw [hn.out]
  have HM31 := Lib.hid hm29
  clear hm29
  have Cb1 := Mem.cell HM31.out 0 rfl
  refine wT [12, 13, 14, 15] ?_
  clear Cb1
  refine wD1h 16 [_] [_, _] Tryz.call193 (tgt_d R _ sa ha la) HM31 [1] fun W33 HM34 => ?_
  refine wT [17, 18] ?_
  refine wZ (wp_ret (bodyPost_ret (results_tmp rfl _ _ _) rfl ?_))
  rw [hc.out]
  exact does_ret (Mem.only (M := [_]) HM34.out [0] rfl) rfl rfl
set_option maxHeartbeats 4000000 in
set_option maxRecDepth 100000 in
theorem psame_d (R : At) (va : Value) (a1 a2 : Int) (sa : List Int) (ha : Reads elemI R va sa) (la : sa.length ≤ 1000) (vb : Value) (b1 b2 : Int) (sb : List Int) (hb : Reads elemI R vb sb) (lb : sb.length ≤ 1000) : Does Tryz.prog 190 #[.agg #[.int .i64 a1, .int .i64 a2, va], .agg #[.int .i64 b1, .int .i64 b2, vb]] [R] (.bool (decide (((a1, a2, sa) : Pl) = (b1, b2, sb)))) [R] := by
 intro w H hp
 have HM0 := Lib.hid (mem_refl hp)
 clear hp
 obtain ⟨pa, ca, rfl⟩ := row_form (Mem.src HM0.out 0 rfl ha)
 obtain ⟨pb, cb, rfl⟩ := row_form (Mem.src HM0.out 0 rfl hb)
 go_enter Tryz.func190, Tryz.ntmps190
 refine wp_seq (wN [(0, 3), (1, 3), (2, 1)] ?_)
 refine wBh 0 HM0 fun b3 W2 HM4 => ?_
 refine wBh 1 HM4 fun b7 W6 HM8 => ?_
 refine wT [2] ?_
 refine wZ (wp_seq ?_)
 by_cases hz : cmpP (a1, a2, sa) (b1, b2, sb) = 0
 ·have g1 : (cmpP (a1, a2, sa) (b1, b2, sb) == 0) = true := beq_iff_eq.2 hz
  have hc : Hid (decide (((a1, a2, sa) : Pl) = (b1, b2, sb)) = true) := Lib.hid (decide_eq_true (cmpP_eq hz))
  clear hz
  refine wN [(0, 1), (1, 1), (2, 3), (3, 1), (4, 1)] ?_
  have Cb2 := Mem.cell HM8.out 1 rfl
  have Cb3 := Mem.cell HM8.out 0 rfl
  refine wT [0, 1] ?_
  clear Cb2 Cb3
  refine wD2h 2 [_, _] [_, _, _] Tryz.call198 (compare_d R _ a1 a2 sa ha la _ b1 b2 sb hb lb) HM8 [2] fun W10 HM11 => ?_
  refine wT [3, 4] ?_
  refine wZ (wp_ret (bodyPost_ret (results_tmp rfl _ _ _) rfl ?_))
  rw [hc.out]
  exact does_ret (Mem.only (M := [_]) HM11.out [0] rfl) rfl rfl
 ·have g1 : (cmpP (a1, a2, sa) (b1, b2, sb) == 0) = false := beq_eq_false_iff_ne.2 hz
  have hc : Hid (decide (((a1, a2, sa) : Pl) = (b1, b2, sb)) = false) := Lib.hid (decide_eq_false fun h => hz ((cmpP_zero _ _).2 h))
  clear hz
  refine wN [(0, 1), (1, 1), (2, 3), (3, 1), (4, 1)] ?_
  have Cb2 := Mem.cell HM8.out 1 rfl
  have Cb3 := Mem.cell HM8.out 0 rfl
  refine wT [0, 1] ?_
  clear Cb2 Cb3
  refine wD2h 2 [_, _] [_, _, _] Tryz.call198 (compare_d R _ a1 a2 sa ha la _ b1 b2 sb hb lb) HM8 [2] fun W13 HM14 => ?_
  refine wT [3, 4] ?_
  refine wZ (wp_ret (bodyPost_ret (results_tmp rfl _ _ _) rfl ?_))
  rw [hc.out]
  exact does_ret (Mem.only (M := [_]) HM14.out [0] rfl) rfl rfl
set_option maxHeartbeats 4000000 in
set_option maxRecDepth 100000 in
theorem emay_d (e1 e2 : Int) : Does Tryz.prog 179 #[.agg #[.int .i64 e1, .int .i64 e2]] [] (.bool (mayE (e1, e2))) [] := by
 intro w H hp
 have HM0 := Lib.hid (mem_refl hp)
 clear hp
 go_enter Tryz.func179, Tryz.ntmps179
 refine wp_seq (wN [(0, 3), (1, 1)] ?_)
 refine wBh 0 HM0 fun b3 W2 HM4 => ?_
 refine wT [1] ?_
 refine wZ (wp_seq (wp_seq ?_))
 rcases (show (e1 = 0 ∧ e2 = 0) ∨ (¬ (e1 = 0 ∧ e2 = 0) ∧ ¬ 1 ≤ e1) ∨ (¬ (e1 = 0 ∧ e2 = 0) ∧ 1 ≤ e1 ∧ ¬ e1 ≤ 1000000) ∨ (¬ (e1 = 0 ∧ e2 = 0) ∧ 1 ≤ e1 ∧ e1 ≤ 1000000) from by omega) with hz | ⟨hz, ha⟩ | ⟨hz, ha, hb⟩ | ⟨hz, ha, hb⟩
 ·have gz : decide (((e1, e2) : En) = ((0, 0) : En)) = true := decide_eq_true (by rw [hz.1, hz.2])
  have hc : Hid (mayE (e1, e2) = true) := Lib.hid (by rw [hz.1, hz.2]; rfl)
  clear hz
  refine wN [(0, 1), (1, 1), (2, 1)] ?_
  have Cb1 := Mem.cell HM4.out 0 rfl
  refine wT [0, 1] ?_
  clear Cb1
  refine wR 2 (run_eqEb (p := (e1, e2)) (q := (0, 0)) gz rfl rfl rfl) ?_
  refine wZ (wp_cond_true rfl (wp_seq (wQ ?_)))
  refine wp_ret (then_ret (bodyPost_ret (results_tmp rfl _ _ _) rfl ?_))
  rw [hc.out]
  exact does_ret (Mem.only (M := []) HM4.out [] rfl) rfl rfl
 ·have gz : decide (((e1, e2) : En) = ((0, 0) : En)) = false := decide_eq_false (fun h => hz ⟨congrArg Prod.fst h, congrArg Prod.snd h⟩)
  have ga : decide (1 ≤ e1) = false := decide_eq_false (by omega)
  have hc : Hid (mayE (e1, e2) = false) := Lib.hid (by refine decide_eq_false ?_; dsimp only; omega)
  clear hz
  refine wN [(0, 1), (1, 1), (2, 1)] ?_
  have Cb1 := Mem.cell HM4.out 0 rfl
  refine wT [0, 1] ?_
  clear Cb1
  refine wR 2 (run_eqEb (p := (e1, e2)) (q := (0, 0)) gz rfl rfl rfl) ?_
  refine wZ (wp_cond_false rfl (wp_skip (then_normal (wp_seq (wN [(0, 1), (1, 1), (2, 1), (3, 1), (4, 1), (5, 1), (6, 1), (7, 1), (8, 1), (9, 1), (10, 1), (11, 3), (12, 1), (13, 1)] ?_)))))
  have Cb1 := Mem.cell HM4.out 0 rfl
  refine wT [0, 1, 2, 3, 4, 5, 6, 7, 8, 9, 10] ?_
  clear Cb1
  refine wK 11 ?_
  refine wT [12, 13] ?_
  refine wZ (wp_ret (bodyPost_ret (results_tmp rfl _ _ _) rfl ?_))
  rw [hc.out]
  exact does_ret (Mem.only (M := []) HM4.out [] rfl) rfl rfl
 ·have gz : decide (((e1, e2) : En) = ((0, 0) : En)) = false := decide_eq_false (fun h => hz ⟨congrArg Prod.fst h, congrArg Prod.snd h⟩)
  have ga : decide (1 ≤ e1) = true := decide_eq_true (by omega)
  have gb : decide (e1 ≤ 1000000) = false := decide_eq_false (by omega)
  have hc : Hid (mayE (e1, e2) = false) := Lib.hid (by refine decide_eq_false ?_; dsimp only; omega)
  clear hz
  refine wN [(0, 1), (1, 1), (2, 1)] ?_
  have Cb1 := Mem.cell HM4.out 0 rfl
  refine wT [0, 1] ?_
  clear Cb1
  refine wR 2 (run_eqEb (p := (e1, e2)) (q := (0, 0)) gz rfl rfl rfl) ?_
  refine wZ (wp_cond_false rfl (wp_skip (then_normal (wp_seq (wN [(0, 1), (1, 1), (2, 1), (3, 1), (4, 1), (5, 1), (6, 1), (7, 1), (8, 1), (9, 1), (10, 1), (11, 3), (12, 1), (13, 1)] ?_)))))
  have Cb1 := Mem.cell HM4.out 0 rfl
  refine wT [0, 1, 2, 3, 4, 5, 6, 7, 8, 9, 10] ?_
  clear Cb1
  refine wK 11 ?_
  refine wT [12, 13] ?_
  refine wZ (wp_ret (bodyPost_ret (results_tmp rfl _ _ _) rfl ?_))
  rw [hc.out]
  exact does_ret (Mem.only (M := []) HM4.out [] rfl) rfl rfl
 ·have gz : decide (((e1, e2) : En) = ((0, 0) : En)) = false := decide_eq_false (fun h => hz ⟨congrArg Prod.fst h, congrArg Prod.snd h⟩)
  have ga : decide (1 ≤ e1) = true := decide_eq_true (by omega)
  have gb : decide (e1 ≤ 1000000) = true := decide_eq_true (by omega)
  have hc : Hid (mayE (e1, e2) = nodeE e2) := Lib.hid (by unfold mayE nodeE; rw [Bool.eq_iff_iff, decide_eq_true_iff, decide_eq_true_iff]; dsimp only; omega)
  clear hz
  refine wN [(0, 1), (1, 1), (2, 1)] ?_
  have Cb1 := Mem.cell HM4.out 0 rfl
  refine wT [0, 1] ?_
  clear Cb1
  refine wR 2 (run_eqEb (p := (e1, e2)) (q := (0, 0)) gz rfl rfl rfl) ?_
  refine wZ (wp_cond_false rfl (wp_skip (then_normal (wp_seq (wN [(0, 1), (1, 1), (2, 1), (3, 1), (4, 1), (5, 1), (6, 1), (7, 1), (8, 1), (9, 1), (10, 1), (11, 3), (12, 1), (13, 1)] ?_)))))
  have Cb1 := Mem.cell HM4.out 0 rfl
  refine wT [0, 1, 2, 3, 4, 5, 6, 7, 8, 9, 10] ?_
  clear Cb1
  refine wD1h 11 [_] [_] Tryz.call194 (enode_d e2) HM4 [] fun W6 HM7 => ?_
  refine wT [12, 13] ?_
  refine wZ (wp_ret (bodyPost_ret (results_tmp rfl _ _ _) rfl ?_))
  rw [hc.out]
  exact does_ret (Mem.only (M := []) HM7.out [] rfl) rfl rfl
end
end Go.Proofs.YtcchkkdbagpgjaaGreat
