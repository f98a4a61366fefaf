/- RfB: of earlier stages. -/
import Derived.Test.YtcbnhakfijiioaaGreatRgK
import Derived.Test.YtcbnhakfijiioaaGreatBgE
import Derived.Test.YtcbnhakfijiioaaGreatLgX
import Derived.Test.YtcbnhakfijiioaaGreatPA
namespace Go.Proofs.YtcbnhakfijiioaaGreat
open Go Go.RowKit Go.BigFrame
set_option maxHeartbeats 4000000 in
set_option maxRecDepth 100000 in
theorem rtgt_d (R : At) (vt : Value) (st : List Int) (ht : Reads elemI R vt st) (lt : st.length ≤ 1000) : Does Tryz.prog 163 #[vt] [R] (.bool (tgtL st)) [R] := by
 intro w H hp
 have HM0 := Lib.hid (mem_refl hp)
 clear hp
 obtain ⟨pt, ct, rfl⟩ := row_form (Mem.src HM0.out 0 rfl ht)
 go_enter Tryz.func163, Tryz.ntmps163
 refine wp_seq (wQ ?_)
 refine wp_seq (wp_seq (wQ ?_))
 refine wp_block ?_
 refine wp_loop_F [2, 4, 7, 8, 9, 10, 11, 12, 13, 14] (fun n vs W' => ∃ k : Nat, n = st.length - k ∧ vs 7 = .int .i64 (k : Int) ∧ k ≤ st.length ∧ (st.take k).all nodeE = true ∧ Mem [R] H w W') (n0 := st.length) ?_ ?_
 ·exact ⟨0, rfl, rfl, Nat.zero_le _, rfl, (Mem.only (M := [_]) HM0.out [0] rfl)⟩
 rintro n vs W' ⟨k, rfl, e7, hk, hf, hm⟩
 simp only [putAll, List.map_cons, List.map_nil, Act.put, List.setIfInBounds_toArray, List.set_cons_succ, List.set_cons_zero]
 rw [e7]
 clear e7
 have hf := Lib.hid hf
 have HM1 := Lib.hid hm
 clear hm
 refine wp_seq (wQ ?_)
 refine wp_seq ?_
 refine wp_cond_split rfl (fun h2 => ?_) (fun h2 => ?_)
 ·have hk1 : k + 1 ≤ st.length := by have : (k : Int) < ((st.length : Nat) : Int) := (by simpa using h2); omega
  clear h2
  obtain ⟨x, hx'⟩ : ∃ y, st[k]? = some y := ⟨_, List.getElem?_eq_getElem (hk1)⟩
  have hx := Lib.hid hx'
  clear hx'
  refine wp_skip (then_normal (wp_seq (wp_block (wp_seq (wN [(0, 1), (1, 1), (2, 1)] ?_)))))
  refine wI elemI 0 (HM1.out.row 0 rfl ht.row) (hx.out) fun eb3 eo4 hc5 => ?_
  refine wM 1 (.int .i64 x) (hc5 0 _ rfl) Tryz.underlying3 ?_
  refine wT [2] ?_
  refine wZ (wp_seq ?_)
  rcases Bool.eq_false_or_eq_true (nodeE x) with hn | hn
  ·replace hn := Lib.hid hn
   refine wN [(0, 1), (1, 3), (2, 1)] (wT [0] ?_)
   refine wD1 1 [_] [_] Tryz.call56 (rnode_d x) HM1 [] fun W7 hm6 => ?_
   rw [hn.out]
   have HM8 := Lib.hid hm6
   clear hm6
   refine wT [2] ?_
   refine wZ (wp_cond_false rfl (wp_skip (block_normal (then_normal (wQ ?_)))))
   refine ⟨by kernel_rfl, ?_⟩
   refine ⟨st.length - (k + 1), by omega, k + 1, rfl, rfl, hk1, ?_, (Mem.only (M := [_]) HM8.out [0] rfl)⟩
   rw [all_step hx.out, hf.out, hn.out]
   rfl
  ·replace hn := Lib.hid hn
   refine wN [(0, 1), (1, 3), (2, 1)] (wT [0] ?_)
   refine wD1 1 [_] [_] Tryz.call56 (rnode_d x) HM1 [] fun W10 hm9 => ?_
   rw [hn.out]
   have HM11 := Lib.hid hm9
   clear hm9
   refine wT [2] ?_
   refine wZ (wp_cond_true rfl (wp_seq (wQ ?_)))
   refine wp_ret ?_
   refine block_ret (then_ret (then_ret (block_ret (then_ret ?_))))
   refine bodyPost_ret (results_tmp rfl _ _ _) rfl ?_
   rw [tgtL_no hx.out hn.out]
   exact does_ret (Mem.only (M := [_]) HM11.out [0] rfl) rfl rfl
 ·have hge : Hid (st.length ≤ k) := Lib.hid (by have : ¬ (k : Int) < ((st.length : Nat) : Int) := (by simpa using h2); omega)
  clear h2
  refine wp_exit ?_
  refine then_exit (then_exit (block_exit ?_))
  refine then_normal (wp_seq ?_)
  by_cases hl : st.length = 16
  ·have g16 : ((st.length : Int) == 16) = true := by simp; omega
   replace hl := Lib.hid hl
   refine wQ ?_
   refine wp_ret (bodyPost_ret (results_tmp rfl _ _ _) rfl ?_)
   have hkl : k = st.length := by have := hge.out; omega
   subst hkl
   have hc : tgtL st = true := by
     unfold tgtL
     rw [decide_eq_true hl.out]
     have h1 := hf.out
     rw [List.take_length] at h1
     rw [h1]
     rfl
   rw [hc]
   exact does_ret (Mem.only (M := [_]) HM1.out [0] rfl) rfl rfl
  ·have g16 : ((st.length : Int) == 16) = false := by simp; omega
   replace hl := Lib.hid hl
   refine wQ ?_
   refine wp_ret (bodyPost_ret (results_tmp rfl _ _ _) rfl ?_)
   have hc : tgtL st = false := by unfold tgtL; rw [decide_eq_false hl.out]; rfl
   rw [hc]
   exact does_ret (Mem.only (M := [_]) HM1.out [0] rfl) rfl rfl
set_option maxHeartbeats 4000000 in
set_option maxRecDepth 100000 in
theorem rmay_d (R : At) (va : Value) (a1 a2 : Int) (sa : List Int) (ha : Reads elemI R va sa) (la : sa.length ≤ 1000) : Does Tryz.prog 148 #[.agg #[.int .i64 a1, .int .i64 a2, va]] [R] (.bool (mayP (a1, a2, sa))) [R] := by
 intro w H hp
 have HM0 := Lib.hid (mem_refl hp)
 clear hp
 obtain ⟨pa, ca, rfl⟩ := row_form (Mem.src HM0.out 0 rfl ha)
 go_enter Tryz.func148, Tryz.ntmps148
 refine wp_seq (wN [(0, 3), (1, 1)] ?_)
 refine wBh 0 HM0 fun b3 W2 HM4 => ?_
 refine wT [1] ?_
 refine wZ (wp_seq (wp_seq ?_))
 rcases may_ways a1 a2 sa with ⟨h1, h2, h3, hz, hc⟩ | ⟨h1, h2, h3, hz, hc⟩ | ⟨h1, h2, hz, hc⟩ | ⟨h1, h2, hz, hc⟩ | ⟨h1, h2, h3, hz, hc⟩ | ⟨h1, h2, h3, hn, hz, hc⟩ | ⟨h1, h2, h3, hn, hz, hc⟩
 ·have g1 : (a1 == 0) = true := beq_iff_eq.2 (by omega)
  have g2 : (a2 == 0) = true := beq_iff_eq.2 (by omega)
  have g3 : ((sa.length : Int) == 0) = true := beq_iff_eq.2 (by omega)
  replace hz := Lib.hid hz
  replace hc := Lib.hid hc
  clear h1 h2
  clear h3
  have Cb1 := Mem.cell HM4.out 0 rfl
  refine wQ ?_
  clear Cb1
  refine wp_cond_true rfl (wp_seq (wQ ?_))
  refine wp_ret (then_ret (bodyPost_ret (results_tmp rfl _ _ _) rfl ?_))
  rw [hc.out]
  exact does_ret (Mem.only (M := [_]) HM4.out [1] rfl) rfl rfl
 ·have g1 : (a1 == 0) = true := beq_iff_eq.2 (by omega)
  have g2 : (a2 == 0) = true := beq_iff_eq.2 (by omega)
  have g3 : ((sa.length : Int) == 0) = false := beq_eq_false_iff_ne.2 (by omega)
  have g4 : decide (1 ≤ a1) = false := decide_eq_false (by omega)
  replace hz := Lib.hid hz
  replace hc := Lib.hid hc
  clear h1 h2
  clear h3
  have Cb1 := Mem.cell HM4.out 0 rfl
  refine wQ ?_
  clear Cb1
  refine wp_cond_false rfl (wp_skip (then_normal (wp_seq (wN [(0, 1), (1, 1), (2, 1), (3, 1), (4, 1), (5, 1), (6, 1), (7, 1), (8, 1), (9, 1), (10, 1), (11, 3), (12, 1), (13, 1), (14, 1), (15, 1), (16, 3), (17, 1), (18, 1)] ?_))))
  have Cb1 := Mem.cell HM4.out 0 rfl
  refine wT [0, 1, 2, 3, 4, 5, 6, 7, 8, 9, 10] ?_
  clear Cb1
  refine wK 11 ?_
  have Cb1 := Mem.cell HM4.out 0 rfl
  refine wT [12, 13, 14, 15] ?_
  clear Cb1
  refine wK 16 ?_
  refine wT [17, 18] ?_
  refine wZ (wp_ret (bodyPost_ret (results_tmp rfl _ _ _) rfl ?_))
  rw [hc.out]
  exact does_ret (Mem.only (M := [_]) HM4.out [1] rfl) rfl rfl
 ·have g1 : (a1 == 0) = true := beq_iff_eq.2 (by omega)
  have g2 : (a2 == 0) = false := beq_eq_false_iff_ne.2 (by omega)
  have g4 : decide (1 ≤ a1) = false := decide_eq_false (by omega)
  replace hz := Lib.hid hz
  replace hc := Lib.hid hc
  clear h1 h2
  have Cb1 := Mem.cell HM4.out 0 rfl
  refine wQ ?_
  clear Cb1
  refine wp_cond_false rfl (wp_skip (then_normal (wp_seq (wN [(0, 1), (1, 1), (2, 1), (3, 1), (4, 1), (5, 1), (6, 1), (7, 1), (8, 1), (9, 1), (10, 1), (11, 3), (12, 1), (13, 1), (14, 1), (15, 1), (16, 3), (17, 1), (18, 1)] ?_))))
  have Cb1 := Mem.cell HM4.out 0 rfl
  refine wT [0, 1, 2, 3, 4, 5, 6, 7, 8, 9, 10] ?_
  clear Cb1
  refine wK 11 ?_
  have Cb1 := Mem.cell HM4.out 0 rfl
  refine wT [12, 13, 14, 15] ?_
  clear Cb1
  refine wK 16 ?_
  refine wT [17, 18] ?_
  refine wZ (wp_ret (bodyPost_ret (results_tmp rfl _ _ _) rfl ?_))
  rw [hc.out]
  exact does_ret (Mem.only (M := [_]) HM4.out [1] rfl) rfl rfl
 ·have g1 : (a1 == 0) = false := beq_eq_false_iff_ne.2 (by omega)
  have g4 : decide (1 ≤ a1) = false := decide_eq_false (by omega)
  replace hz := Lib.hid hz
  replace hc := Lib.hid hc
  clear h1 h2
  have Cb1 := Mem.cell HM4.out 0 rfl
  refine wQ ?_
  clear Cb1
  refine wp_cond_false rfl (wp_skip (then_normal (wp_seq (wN [(0, 1), (1, 1), (2, 1), (3, 1), (4, 1), (5, 1), (6, 1), (7, 1), (8, 1), (9, 1), (10, 1), (11, 3), (12, 1), (13, 1), (14, 1), (15, 1), (16, 3), (17, 1), (18, 1)] ?_))))
  have Cb1 := Mem.cell HM4.out 0 rfl
  refine wT [0, 1, 2, 3, 4, 5, 6, 7, 8, 9, 10] ?_
  clear Cb1
  refine wK 11 ?_
  have Cb1 := Mem.cell HM4.out 0 rfl
  refine wT [12, 13, 14, 15] ?_
  clear Cb1
  refine wK 16 ?_
  refine wT [17, 18] ?_
  refine wZ (wp_ret (bodyPost_ret (results_tmp rfl _ _ _) rfl ?_))
  rw [hc.out]
  exact does_ret (Mem.only (M := [_]) HM4.out [1] rfl) rfl rfl
 ·have g1 : (a1 == 0) = false := beq_eq_false_iff_ne.2 (by omega)
  have g4 : decide (1 ≤ a1) = true := decide_eq_true (by omega)
  have g5 : decide (a1 ≤ 1000000) = false := decide_eq_false (by omega)
  replace hz := Lib.hid hz
  replace hc := Lib.hid hc
  clear h1 h2
  clear h3
  have Cb1 := Mem.cell HM4.out 0 rfl
  refine wQ ?_
  clear Cb1
  refine wp_cond_false rfl (wp_skip (then_normal (wp_seq (wN [(0, 1), (1, 1), (2, 1), (3, 1), (4, 1), (5, 1), (6, 1), (7, 1), (8, 1), (9, 1), (10, 1), (11, 3), (12, 1), (13, 1), (14, 1), (15, 1), (16, 3), (17, 1), (18, 1)] ?_))))
  have Cb1 := Mem.cell HM4.out 0 rfl
  refine wT [0, 1, 2, 3, 4, 5, 6, 7, 8, 9, 10] ?_
  clear Cb1
  refine wK 11 ?_
  have Cb1 := Mem.cell HM4.out 0 rfl
  refine wT [12, 13, 14, 15] ?_
  clear Cb1
  refine wK 16 ?_
  refine wT [17, 18] ?_
  refine wZ (wp_ret (bodyPost_ret (results_tmp rfl _ _ _) rfl ?_))
  rw [hc.out]
  exact does_ret (Mem.only (M := [_]) HM4.out [1] rfl) rfl rfl
 ·have g1 : (a1 == 0) = false := beq_eq_false_iff_ne.2 (by omega)
  have g4 : decide (1 ≤ a1) = true := decide_eq_true (by omega)
  have g5 : decide (a1 ≤ 1000000) = true := decide_eq_true (by omega)
  replace hn := Lib.hid hn
  replace hz := Lib.hid hz
  replace hc := Lib.hid hc
  clear h1 h2
  clear h3
  have Cb1 := Mem.cell HM4.out 0 rfl
  refine wQ ?_
  clear Cb1
  refine wp_cond_false rfl (wp_skip (then_normal (wp_seq (wN [(0, 1), (1, 1), (2, 1), (3, 1), (4, 1), (5, 1), (6, 1), (7, 1), (8, 1), (9, 1), (10, 1), (11, 3), (12, 1), (13, 1), (14, 1), (15, 1), (16, 3), (17, 1), (18, 1)] ?_))))
  have Cb1 := Mem.cell HM4.out 0 rfl
  refine wT [0, 1, 2, 3, 4, 5, 6, 7, 8, 9, 10] ?_
  clear Cb1
  refine wD1 11 [_, _] [_, _] Tryz.call56 (rnode_d a2) HM4 [] fun W6 hm5 => ?_
  rw [hn.out]
  have HM7 := Lib.hid hm5
  clear hm5
  have Cb1 := Mem.cell HM7.out 0 rfl
  refine wT [12, 13, 14, 15] ?_
  clear Cb1
  refine wK 16 ?_
  refine wT [17, 18] ?_
  refine wZ (wp_ret (bodyPost_ret (results_tmp rfl _ _ _) rfl ?_))
  rw [hc.out]
  exact does_ret (Mem.only (M := [_]) HM7.out [1] rfl) rfl rfl
 ·have g1 : (a1 == 0) = false := beq_eq_false_iff_ne.2 (by omega)
  have g4 : decide (1 ≤ a1) = true := decide_eq_true (by omega)
  have g5 : decide (a1 ≤ 1000000) = true := decide_eq_true (by omega)
  replace hn := Lib.hid hn
  replace hz := Lib.hid hz
  replace hc := Lib.hid hc
  clear h1 h2
  clear h3
  have Cb1 := Mem.cell HM4.out 0 rfl
  refine wQ ?_
  clear Cb1
  refine wp_cond_false rfl (wp_skip (then_normal (wp_seq (wN [(0, 1), (1, 1), (2, 1), (3, 1), (4, 1), (5, 1), (6, 1), (7, 1), (8, 1), (9, 1), (10, 1), (11, 3), (12, 1), (13, 1), (14, 1), (15, 1), (16, 3), (17, 1), (18, 1)] ?_))))
  have Cb1 := Mem.cell HM4.out 0 rfl
  refine wT [0, 1, 2, 3, 4, 5, 6, 7, 8, 9, 10] ?_
  clear Cb1
  refine wD1 11 [_, _] [_, _] Tryz.call56 (rnode_d a2) HM4 [] fun W9 hm8 => ?_
  rw [hn.out]
  have HM10 := Lib.hid hm8
  clear hm8
  have Cb1 := Mem.cell HM10.out 0 rfl
  refine wT [12, 13, 14, 15] ?_
  clear Cb1
  refine wD1h 16 [_] [_, _] Tryz.call163 (rtgt_d R _ sa ha la) HM10 [1] fun W12 HM13 => ?_
  refine wT [17, 18] ?_
  refine wZ (wp_ret (bodyPost_ret (results_tmp rfl _ _ _) rfl ?_))
  rw [hc.out]
  exact does_ret (Mem.only (M := [_]) HM13.out [0] rfl) rfl rfl
set_option maxHeartbeats 4000000 in
set_option maxRecDepth 100000 in
theorem rcompare_d (R : At) (va : Value) (a1 a2 : Int) (sa : List Int) (ha : Reads elemI R va sa) (la : sa.length ≤ 1000) (vb : Value) (b1 b2 : Int) (sb : List Int) (hb : Reads elemI R vb sb) (_lb : sb.length ≤ 1000) : Does Tryz.prog 167 #[.agg #[.int .i64 a1, .int .i64 a2, va], .agg #[.int .i64 b1, .int .i64 b2, vb]] [R] (.int .i64 (cmpP (a1, a2, sa) (b1, b2, sb))) [R] := by
 intro w H hp
 have HM0 := Lib.hid (mem_refl hp)
 clear hp
 obtain ⟨pa, ca, rfl⟩ := row_form (Mem.src HM0.out 0 rfl ha)
 obtain ⟨pb, cb, rfl⟩ := row_form (Mem.src HM0.out 0 rfl hb)
 go_enter Tryz.func167, Tryz.ntmps167
 refine wp_seq (wN [(0, 3), (1, 3), (2, 1)] ?_)
 refine wBh 0 HM0 fun b3 W2 HM4 => ?_
 refine wBh 1 HM4 fun b7 W6 HM8 => ?_
 refine wT [2] ?_
 refine wZ (wp_seq (wp_seq ?_))
 rcases cmp_ways (a1, a2, sa) (b1, b2, sb) with ⟨h1, hc⟩ | ⟨h1, h2, hc⟩ | ⟨h1, h2, h3, hc⟩ | ⟨h1, h2, h3, hc⟩
 ·have g1 : (a1 != b1) = true := bne_iff_ne.2 h1
  replace hc := Lib.hid hc
  clear h1
  have Cb2 := Mem.cell HM8.out 1 rfl
  have Cb3 := Mem.cell HM8.out 0 rfl
  refine wQ ?_
  clear Cb2 Cb3
  refine wp_cond_true rfl (wp_seq (wN [(0, 1), (1, 1), (2, 1), (3, 1), (4, 3), (5, 1)] ?_))
  have Cb2 := Mem.cell HM8.out 1 rfl
  have Cb3 := Mem.cell HM8.out 0 rfl
  refine wT [0, 1, 2, 3] ?_
  clear Cb2 Cb3
  refine wD2h 4 [_, _, _] [_, _, _] Tryz.call129 (rcmp_d a1 b1) HM8 [] fun W10 HM11 => ?_
  refine wT [5] ?_
  refine wZ (wp_ret (then_ret (bodyPost_ret (results_tmp rfl _ _ _) rfl ?_)))
  rw [hc.out]
  exact does_ret (Mem.only (M := [_]) HM11.out [2] rfl) rfl rfl
 ·have g1 : (a1 != b1) = false := by simpa using h1
  have g2 : (a2 != b2) = true := bne_iff_ne.2 h2
  replace hc := Lib.hid hc
  clear h1 h2
  have Cb2 := Mem.cell HM8.out 1 rfl
  have Cb3 := Mem.cell HM8.out 0 rfl
  refine wQ ?_
  clear Cb2 Cb3
  refine wp_cond_false rfl (wp_skip (then_normal (wp_seq (wp_seq ?_))))
  have Cb2 := Mem.cell HM8.out 1 rfl
  have Cb3 := Mem.cell HM8.out 0 rfl
  refine wQ ?_
  clear Cb2 Cb3
  refine wp_cond_true rfl (wp_seq (wN [(0, 1), (1, 1), (2, 1), (3, 1), (4, 3), (5, 1)] ?_))
  have Cb2 := Mem.cell HM8.out 1 rfl
  have Cb3 := Mem.cell HM8.out 0 rfl
  refine wT [0, 1, 2, 3] ?_
  clear Cb2 Cb3
  refine wD2h 4 [_, _, _] [_, _, _] Tryz.call129 (rcmp_d a2 b2) HM8 [] fun W13 HM14 => ?_
  refine wT [5] ?_
  refine wZ (wp_ret (then_ret (bodyPost_ret (results_tmp rfl _ _ _) rfl ?_)))
  rw [hc.out]
  exact does_ret (Mem.only (M := [_]) HM14.out [2] rfl) rfl rfl
 ·have g1 : (a1 != b1) = false := by simpa using h1
  have g2 : (a2 != b2) = false := by simpa using h2
  have g3 : ((sa.length : Int) != (sb.length : Int)) = true := bne_iff_ne.2 (by dsimp only at h3; omega)
  replace hc := Lib.hid hc
  clear h1 h2 h3
  have Cb2 := Mem.cell HM8.out 1 rfl
  have Cb3 := Mem.cell HM8.out 0 rfl
  refine wQ ?_
  clear Cb2 Cb3
  refine wp_cond_false rfl (wp_skip (then_normal (wp_seq (wp_seq ?_))))
  have Cb2 := Mem.cell HM8.out 1 rfl
  have Cb3 := Mem.cell HM8.out 0 rfl
  refine wQ ?_
  clear Cb2 Cb3
  refine wp_cond_false rfl (wp_skip (then_normal (wp_seq (wp_seq ?_))))
  have Cb2 := Mem.cell HM8.out 1 rfl
  have Cb3 := Mem.cell HM8.out 0 rfl
  refine wQ ?_
  clear Cb2 Cb3
  refine wp_cond_true rfl (wp_seq (wN [(0, 1), (1, 1), (2, 1), (3, 1), (4, 1), (5, 1), (6, 3), (7, 1)] ?_))
  have Cb2 := Mem.cell HM8.out 1 rfl
  have Cb3 := Mem.cell HM8.out 0 rfl
  refine wT [0, 1, 2, 3, 4, 5] ?_
  clear Cb2 Cb3
  refine wD2h 6 [_, _, _] [_, _, _] Tryz.call129 (rcmp_d sa.length sb.length) HM8 [] fun W16 HM17 => ?_
  refine wT [7] ?_
  refine wZ (wp_ret (then_ret (bodyPost_ret (results_tmp rfl _ _ _) rfl ?_)))
  rw [hc.out]
  exact does_ret (Mem.only (M := [_]) HM17.out [2] rfl) rfl rfl
 ·have g1 : (a1 != b1) = false := by simpa using h1
  have g2 : (a2 != b2) = false := by simpa using h2
  have g3 : ((sa.length : Int) != (sb.length : Int)) = false := by dsimp only at h3; rw [h3]; exact bne_self_eq_false _
  replace hc := Lib.hid hc
  have hl := Lib.hid h3
  replace hl : Hid (sa.length = sb.length) := hl
  clear h1 h2 h3
  have Cb2 := Mem.cell HM8.out 1 rfl
  have Cb3 := Mem.cell HM8.out 0 rfl
  refine wQ ?_
  clear Cb2 Cb3
  refine wp_cond_false rfl (wp_skip (then_normal (wp_seq (wp_seq ?_))))
  have Cb2 := Mem.cell HM8.out 1 rfl
  have Cb3 := Mem.cell HM8.out 0 rfl
  refine wQ ?_
  clear Cb2 Cb3
  refine wp_cond_false rfl (wp_skip (then_normal (wp_seq (wp_seq ?_))))
  have Cb2 := Mem.cell HM8.out 1 rfl
  have Cb3 := Mem.cell HM8.out 0 rfl
  refine wQ ?_
  clear Cb2 Cb3
  refine wp_cond_false rfl (wp_skip (then_normal (wp_seq (wp_seq ?_))))
  have Cb2 := Mem.cell HM8.out 1 rfl
  refine wQ ?_
  clear Cb2
  refine wp_block ?_
  refine wp_loop_F [4, 5, 43, 44, 45, 46, 47, 48, 49, 50, 51, 52, 53, 54, 55, 56, 57, 58, 59, 60, 61, 62, 63, 64, 65, 66, 67, 68] (fun n vs W' => ∃ k : Nat, n = sa.length - k ∧ vs 43 = .int .i64 (k : Int) ∧ k ≤ sa.length ∧ cmpL (sa.drop k) (sb.drop k) = cmpL sa sb ∧ Mem [boxT b3 (.cells #[.int .i64 a1, .int .i64 a2, .slice pa sa.length ca] 73 (0, 0)), boxT b7 (.cells #[.int .i64 b1, .int .i64 b2, .slice pb sb.length cb] 73 (0, 0)), R] H w W') (n0 := sa.length) ?_ ?_
  ·exact ⟨0, rfl, rfl, Nat.zero_le _, rfl, (Mem.only (M := [_, _, _]) HM8.out [1, 0, 0] rfl)⟩
  rintro n vs W' ⟨k, rfl, e43, hk, hf, hm⟩
  simp only [putAll, List.map_cons, List.map_nil, Act.put, List.setIfInBounds_toArray, List.set_cons_succ, List.set_cons_zero]
  rw [e43]
  clear e43
  have hf := Lib.hid hf
  have HM18 := Lib.hid hm
  clear hm
  refine wp_seq (wQ ?_)
  refine wp_seq ?_
  refine wp_cond_split rfl (fun h19 => ?_) (fun h19 => ?_)
  ·have hk1 : k + 1 ≤ sa.length := by have : (k : Int) < ((sa.length : Nat) : Int) := (by simpa using h19); omega
   clear h19
   obtain ⟨x, hx'⟩ : ∃ y, sa[k]? = some y := ⟨_, List.getElem?_eq_getElem (hk1)⟩
   have hx := Lib.hid hx'
   clear hx'
   obtain ⟨y, hy'⟩ : ∃ y, sb[k]? = some y := ⟨_, List.getElem?_eq_getElem (by have := hl.out; omega)⟩
   have hy := Lib.hid hy'
   clear hy'
   refine wp_skip (then_normal (wp_seq (wp_block (wp_seq (wQ ?_)))))
   refine wp_seq ?_
   by_cases hxy : cmpI x y = 0
   ·have hxe : x = y := (cmpI_zero _ _).1 hxy
    have g4 : (x != y) = false := by simp [hxe]
    clear hxe
    replace hxy := Lib.hid hxy
    refine wp_region_M (fun k => k ∈ ([] : List Nat)) [(0, 1), (1, 1), (2, 1), (3, 1), (4, 1), (5, 1), (6, 1), (7, 1), (8, 1), (9, 1), (10, 1)] (by kernel_rfl) (by kernel_rfl) HM18.out ?_
    intro W20 hm21
    have HM22 := Lib.hid hm21
    clear hm21
    have Cb2 := Mem.cell HM22.out 0 rfl
    refine wT [0, 1, 2] ?_
    clear Cb2
    refine wI elemI 3 (HM22.out.row 2 rfl ha.row) (hx.out) fun eb23 eo24 hc25 => ?_
    refine wM 4 (.int .i64 x) (hc25 0 _ rfl) Tryz.underlying3 ?_
    have Cb3 := Mem.cell HM22.out 1 rfl
    refine wT [5, 6, 7] ?_
    clear Cb3
    refine wI elemI 8 (HM22.out.row 2 rfl hb.row) (hy.out) fun eb26 eo27 hc28 => ?_
    refine wM 9 (.int .i64 y) (hc28 0 _ rfl) Tryz.underlying3 ?_
    refine wT [10] ?_
    refine wZ (wp_cond_false rfl (wp_skip (block_normal (then_normal (wQ ?_)))))
    refine ⟨by kernel_rfl, ?_⟩
    refine ⟨sa.length - (k + 1), by omega, k + 1, rfl, rfl, hk1, ?_, (Mem.only (M := [_, _, _]) HM22.out [0, 0, 0] rfl)⟩
    rw [← hf.out, cmpL_step hx.out hy.out, orI_next hxy.out]
   ·have hxe : x ≠ y := fun h => hxy ((cmpI_zero _ _).2 h)
    have g4 : (x != y) = true := bne_iff_ne.2 hxe
    clear hxe
    replace hxy := Lib.hid hxy
    refine wp_region_M (fun k => k ∈ ([] : List Nat)) [(0, 1), (1, 1), (2, 1), (3, 1), (4, 1), (5, 1), (6, 1), (7, 1), (8, 1), (9, 1), (10, 1)] (by kernel_rfl) (by kernel_rfl) HM18.out ?_
    intro W29 hm30
    have HM31 := Lib.hid hm30
    clear hm30
    have Cb2 := Mem.cell HM31.out 0 rfl
    refine wT [0, 1, 2] ?_
    clear Cb2
    refine wI elemI 3 (HM31.out.row 2 rfl ha.row) (hx.out) fun eb32 eo33 hc34 => ?_
    refine wM 4 (.int .i64 x) (hc34 0 _ rfl) Tryz.underlying3 ?_
    have Cb3 := Mem.cell HM31.out 1 rfl
    refine wT [5, 6, 7] ?_
    clear Cb3
    refine wI elemI 8 (HM31.out.row 2 rfl hb.row) (hy.out) fun eb35 eo36 hc37 => ?_
    refine wM 9 (.int .i64 y) (hc37 0 _ rfl) Tryz.underlying3 ?_
    refine wT [10] ?_
    refine wZ (wp_cond_true rfl (wp_seq ?_))
    refine wp_region_M (fun k => k ∈ ([] : List Nat)) [(0, 1), (1, 1), (2, 1), (3, 1), (4, 1), (5, 1), (6, 1), (7, 1), (8, 1), (9, 1), (10, 3), (11, 1)] (by kernel_rfl) (by kernel_rfl) HM31.out ?_
    intro W38 hm39
    have HM40 := Lib.hid hm39
    clear hm39
    have Cb2 := Mem.cell HM40.out 0 rfl
    refine wT [0, 1, 2] ?_
    clear Cb2
    refine wI elemI 3 (HM40.out.row 2 rfl ha.row) (hx.out) fun eb41 eo42 hc43 => ?_
    refine wM 4 (.int .i64 x) (hc43 0 _ rfl) Tryz.underlying3 ?_
    have Cb3 := Mem.cell HM40.out 1 rfl
    refine wT [5, 6, 7] ?_
    clear Cb3
    refine wI elemI 8 (HM40.out.row 2 rfl hb.row) (hy.out) fun eb44 eo45 hc46 => ?_
    refine wM 9 (.int .i64 y) (hc46 0 _ rfl) Tryz.underlying3 ?_
    refine wD2h 10 [_, _, _] [_, _, _] Tryz.call129 (rcmp_d x y) HM40 [] fun W48 HM49 => ?_
    refine wT [11] ?_
    refine wZ (wp_ret ?_)
    refine block_ret (then_ret (then_ret (block_ret (then_ret ?_))))
    refine bodyPost_ret (results_tmp rfl _ _ _) rfl ?_
    have hd : cmpL sa sb = cmpI x y := by rw [← hf.out, cmpL_step hx.out hy.out, orI_self hxy.out]
    rw [hc.out]
    show _ = Ending.returned (.int .i64 (cmpL sa sb)) ∧ _
    rw [hd]
    exact does_ret (Mem.only (M := [_]) HM49.out [2] rfl) rfl rfl
  ·have hge : Hid (sa.length ≤ k) := Lib.hid (by have : ¬ (k : Int) < ((sa.length : Nat) : Int) := (by simpa using h19); omega)
   clear h19
   refine wp_exit ?_
   refine then_exit (then_exit (block_exit ?_))
   refine then_normal (wp_seq (wQ ?_))
   refine wp_ret (bodyPost_ret (results_tmp rfl _ _ _) rfl ?_)
   have hd : cmpL sa sb = 0 := by
     have h1 := hge.out
     have h2 := hl.out
     rw [← hf.out, cmpL_end h1 hk (by omega), if_neg (by omega)]
   rw [hc.out]
   show _ = Ending.returned (.int .i64 (cmpL sa sb)) ∧ _
   rw [hd]
   exact does_ret (Mem.only (M := [_]) HM18.out [2] rfl) rfl rfl
set_option maxHeartbeats 4000000 in
set_option maxRecDepth 100000 in
theorem remay_d (e1 e2 : Int) : Does Tryz.prog 147 #[.agg #[.int .i64 e1, .int .i64 e2]] [] (.bool (mayE (e1, e2))) [] := by
 intro w H hp
 have HM0 := Lib.hid (mem_refl hp)
 clear hp
 go_enter Tryz.func147, Tryz.ntmps147
 refine wp_seq (wN [(0, 3), (1, 1)] ?_)
 refine wBh 0 HM0 fun b3 W2 HM4 => ?_
 refine wT [1] ?_
 refine wZ (wp_seq ?_)
 rcases (show (e1 = 0 ∧ e2 = 0) ∨ (¬ (e1 = 0 ∧ e2 = 0) ∧ ¬ 1 ≤ e1) ∨ (¬ (e1 = 0 ∧ e2 = 0) ∧ 1 ≤ e1 ∧ ¬ e1 ≤ 1000000) ∨ (¬ (e1 = 0 ∧ e2 = 0) ∧ 1 ≤ e1 ∧ e1 ≤ 1000000) from by omega) with hz | ⟨hz, ha⟩ | ⟨hz, ha, hb⟩ | ⟨hz, ha, hb⟩
 ·have gz : decide (((e1, e2) : En) = ((0, 0) : En)) = true := decide_eq_true (by rw [hz.1, hz.2])
  have hc : Hid (mayE (e1, e2) = true) := Lib.hid (by rw [hz.1, hz.2]; rfl)
  clear hz
  refine wN [(0, 1), (1, 1), (2, 1), (3, 1), (4, 1), (5, 1), (6, 1), (7, 1), (8, 1), (9, 1), (10, 1), (11, 1), (12, 1), (13, 1), (14, 1), (15, 3), (16, 1), (17, 1), (18, 1)] ?_
  have Cb1 := Mem.cell HM4.out 0 rfl
  refine wT [0, 1] ?_
  clear Cb1
  refine wR 2 (run_eqEb (p := (e1, e2)) (q := (0, 0)) gz rfl rfl rfl) ?_
  have Cb1 := Mem.cell HM4.out 0 rfl
  refine wT [3, 4, 5, 6, 7, 8, 9, 10, 11, 12, 13, 14] ?_
  clear Cb1
  refine wK 15 ?_
  refine wT [16, 17, 18] ?_
  refine wZ (wp_ret (bodyPost_ret (results_tmp rfl _ _ _) rfl ?_))
  rw [hc.out]
  exact does_ret (Mem.only (M := []) HM4.out [] rfl) rfl rfl
 ·have gz : decide (((e1, e2) : En) = ((0, 0) : En)) = false := decide_eq_false (fun h => hz ⟨congrArg Prod.fst h, congrArg Prod.snd h⟩)
  have ga : decide (1 ≤ e1) = false := decide_eq_false (by omega)
  have hc : Hid (mayE (e1, e2) = false) := Lib.hid (by refine decide_eq_false ?_; dsimp only; omega)
  clear hz
  refine wN [(0, 1), (1, 1), (2, 1), (3, 1), (4, 1), (5, 1), (6, 1), (7, 1), (8, 1), (9, 1), (10, 1), (11, 1), (12, 1), (13, 1), (14, 1), (15, 3), (16, 1), (17, 1), (18, 1)] ?_
  have Cb1 := Mem.cell HM4.out 0 rfl
  refine wT [0, 1] ?_
  clear Cb1
  refine wR 2 (run_eqEb (p := (e1, e2)) (q := (0, 0)) gz rfl rfl rfl) ?_
  have Cb1 := Mem.cell HM4.out 0 rfl
  refine wT [3, 4, 5, 6, 7, 8, 9, 10, 11, 12, 13, 14] ?_
  clear Cb1
  refine wK 15 ?_
  refine wT [16, 17, 18] ?_
  refine wZ (wp_ret (bodyPost_ret (results_tmp rfl _ _ _) rfl ?_))
  rw [hc.out]
  exact does_ret (Mem.only (M := []) HM4.out [] rfl) rfl rfl
 ·have gz : decide (((e1, e2) : En) = ((0, 0) : En)) = false := decide_eq_false (fun h => hz ⟨congrArg Prod.fst h, congrArg Prod.snd h⟩)
  have ga : decide (1 ≤ e1) = true := decide_eq_true (by omega)
  have gb : decide (e1 ≤ 1000000) = false := decide_eq_false (by omega)
  have hc : Hid (mayE (e1, e2) = false) := Lib.hid (by refine decide_eq_false ?_; dsimp only; omega)
  clear hz
  refine wN [(0, 1), (1, 1), (2, 1), (3, 1), (4, 1), (5, 1), (6, 1), (7, 1), (8, 1), (9, 1), (10, 1), (11, 1), (12, 1), (13, 1), (14, 1), (15, 3), (16, 1), (17, 1), (18, 1)] ?_
  have Cb1 := Mem.cell HM4.out 0 rfl
  refine wT [0, 1] ?_
  clear Cb1
  refine wR 2 (run_eqEb (p := (e1, e2)) (q := (0, 0)) gz rfl rfl rfl) ?_
  have Cb1 := Mem.cell HM4.out 0 rfl
  refine wT [3, 4, 5, 6, 7, 8, 9, 10, 11, 12, 13, 14] ?_
  clear Cb1
  refine wK 15 ?_
  refine wT [16, 17, 18] ?_
  refine wZ (wp_ret (bodyPost_ret (results_tmp rfl _ _ _) rfl ?_))
  rw [hc.out]
  exact does_ret (Mem.only (M := []) HM4.out [] rfl) rfl rfl
 ·have gz : decide (((e1, e2) : En) = ((0, 0) : En)) = false := decide_eq_false (fun h => hz ⟨congrArg Prod.fst h, congrArg Prod.snd h⟩)
  have ga : decide (1 ≤ e1) = true := decide_eq_true (by omega)
  have gb : decide (e1 ≤ 1000000) = true := decide_eq_true (by omega)
  have hc : Hid (mayE (e1, e2) = nodeE e2) := Lib.hid (by unfold mayE nodeE; rw [Bool.eq_iff_iff, decide_eq_true_iff, decide_eq_true_iff]; dsimp only; omega)
  clear hz
  refine wN [(0, 1), (1, 1), (2, 1), (3, 1), (4, 1), (5, 1), (6, 1), (7, 1), (8, 1), (9, 1), (10, 1), (11, 1), (12, 1), (13, 1), (14, 1), (15, 3), (16, 1), (17, 1), (18, 1)] ?_
  have Cb1 := Mem.cell HM4.out 0 rfl
  refine wT [0, 1] ?_
  clear Cb1
  refine wR 2 (run_eqEb (p := (e1, e2)) (q := (0, 0)) gz rfl rfl rfl) ?_
  have Cb1 := Mem.cell HM4.out 0 rfl
  refine wT [3, 4, 5, 6, 7, 8, 9, 10, 11, 12, 13, 14] ?_
  clear Cb1
  refine wD1h 15 [_] [_] Tryz.call56 (rnode_d e2) HM4 [] fun W6 HM7 => ?_
  refine wT [16, 17, 18] ?_
  refine wZ (wp_ret (bodyPost_ret (results_tmp rfl _ _ _) rfl ?_))
  rw [hc.out]
  exact does_ret (Mem.only (M := []) HM7.out [] rfl) rfl rfl
set_option maxHeartbeats 4000000 in
set_option maxRecDepth 100000 in
theorem rsame_d (R : At) (va : Value) (a : Rg) (ha : Reads elemI R va a.p.2.2) (la : a.p.2.2.length ≤ 1000) (vb : Value) (b : Rg) (hb : Reads elemI R vb b.p.2.2) (lb : b.p.2.2.length ≤ 1000) : Does Tryz.prog 162 #[rgV a va, rgV b vb] [R] (.bool (sameR a b)) [R] := by
 intro w H hp
 have HM0 := Lib.hid (mem_refl hp)
 clear hp
 obtain ⟨pa, ca, rfl⟩ := row_form (Mem.src HM0.out 0 rfl ha)
 obtain ⟨pb, cb, rfl⟩ := row_form (Mem.src HM0.out 0 rfl hb)
 go_enter Tryz.func162, Tryz.ntmps162
 refine wp_seq (wN [(0, 3), (1, 3), (2, 1)] ?_)
 refine wBh 0 HM0 fun b3 W2 HM4 => ?_
 refine wBh 1 HM4 fun b7 W6 HM8 => ?_
 refine wT [2] ?_
 refine wZ (wp_seq ?_)
 rcases (show ¬ tab8 a.s = tab8 b.s ∨ (tab8 a.s = tab8 b.s ∧ ¬ tab16 a.e = tab16 b.e) ∨ (tab8 a.s = tab8 b.s ∧ tab16 a.e = tab16 b.e) from by by_cases k1 : tab8 a.s = tab8 b.s <;> by_cases k2 : tab16 a.e = tab16 b.e <;> simp [k1, k2]) with hs | ⟨hs, he⟩ | ⟨hs, he⟩
 ·have gs := decide_eq_false hs
  have hc : Hid (sameR a b = false) := Lib.hid (by unfold sameR; rw [gs]; rfl)
  clear hs
  refine wN [(0, 1), (1, 1), (2, 1), (3, 1), (4, 1), (5, 1), (6, 1), (7, 1), (8, 1), (9, 1), (10, 1), (11, 1), (12, 1), (13, 1), (14, 1), (15, 1), (16, 1), (17, 3), (18, 1), (19, 1), (20, 1)] (wT [0] ?_)
  refine wL 1 (stC (a).s) (HM8.out.sub 1 rfl (rgC_st)) Tryz.underlying39 ?_
  refine wT [2] ?_
  refine wL 3 (stC (b).s) (HM8.out.sub 0 rfl (rgC_st)) Tryz.underlying39 ?_
  refine wR 4 (run_eqSt (f := a.s) (g := b.s) (gs) rfl rfl rfl) ?_
  refine wT [5, 6] ?_
  refine wK 7 ?_
  refine wT [8] ?_
  refine wK 9 ?_
  refine wK 10 ?_
  refine wT [11, 12, 13] ?_
  refine wK 14 ?_
  refine wT [15] ?_
  refine wK 16 ?_
  refine wK 17 ?_
  refine wT [18, 19, 20] ?_
  refine wZ (wp_ret (bodyPost_ret (results_tmp rfl _ _ _) rfl ?_))
  rw [hc.out]
  exact does_ret (Mem.only (M := [_]) HM8.out [2] rfl) rfl rfl
 ·have gs := decide_eq_true hs
  have ge := decide_eq_false he
  have hc : Hid (sameR a b = false) := Lib.hid (by unfold sameR; rw [gs, ge]; rfl)
  clear hs he
  refine wN [(0, 1), (1, 1), (2, 1), (3, 1), (4, 1), (5, 1), (6, 1), (7, 1), (8, 1), (9, 1), (10, 1), (11, 1), (12, 1), (13, 1), (14, 1), (15, 1), (16, 1), (17, 3), (18, 1), (19, 1), (20, 1)] (wT [0] ?_)
  refine wL 1 (stC (a).s) (HM8.out.sub 1 rfl (rgC_st)) Tryz.underlying39 ?_
  refine wT [2] ?_
  refine wL 3 (stC (b).s) (HM8.out.sub 0 rfl (rgC_st)) Tryz.underlying39 ?_
  refine wR 4 (run_eqSt (f := a.s) (g := b.s) (gs) rfl rfl rfl) ?_
  refine wT [5, 6] ?_
  refine wL 7 (enC (a).e) (HM8.out.sub 1 rfl (rgC_en)) Tryz.underlying76 ?_
  refine wT [8] ?_
  refine wL 9 (enC (b).e) (HM8.out.sub 0 rfl (rgC_en)) Tryz.underlying76 ?_
  refine wR 10 (run_eqEn (f := a.e) (g := b.e) (ge) rfl rfl rfl) ?_
  refine wT [11, 12, 13] ?_
  refine wK 14 ?_
  refine wT [15] ?_
  refine wK 16 ?_
  refine wK 17 ?_
  refine wT [18, 19, 20] ?_
  refine wZ (wp_ret (bodyPost_ret (results_tmp rfl _ _ _) rfl ?_))
  rw [hc.out]
  exact does_ret (Mem.only (M := [_]) HM8.out [2] rfl) rfl rfl
 ·have gs := decide_eq_true hs
  have ge := decide_eq_true he
  have hc : Hid (sameR a b = (cmpP a.p b.p == 0)) := Lib.hid (by unfold sameR; rw [gs, ge]; rfl)
  clear hs he
  refine wN [(0, 1), (1, 1), (2, 1), (3, 1), (4, 1), (5, 1), (6, 1), (7, 1), (8, 1), (9, 1), (10, 1), (11, 1), (12, 1), (13, 1), (14, 1), (15, 1), (16, 1), (17, 3), (18, 1), (19, 1), (20, 1)] (wT [0] ?_)
  refine wL 1 (stC (a).s) (HM8.out.sub 1 rfl (rgC_st)) Tryz.underlying39 ?_
  refine wT [2] ?_
  refine wL 3 (stC (b).s) (HM8.out.sub 0 rfl (rgC_st)) Tryz.underlying39 ?_
  refine wR 4 (run_eqSt (f := a.s) (g := b.s) (gs) rfl rfl rfl) ?_
  refine wT [5, 6] ?_
  refine wL 7 (enC (a).e) (HM8.out.sub 1 rfl (rgC_en)) Tryz.underlying76 ?_
  refine wT [8] ?_
  refine wL 9 (enC (b).e) (HM8.out.sub 0 rfl (rgC_en)) Tryz.underlying76 ?_
  refine wR 10 (run_eqEn (f := a.e) (g := b.e) (ge) rfl rfl rfl) ?_
  refine wT [11, 12, 13] ?_
  refine wL 14 (plC (a).p (.slice pa a.p.2.2.length ca)) (HM8.out.sub 1 rfl (rgC_pl)) Tryz.underlying73 ?_
  dsimp only [plC]
  refine wT [15] ?_
  refine wL 16 (plC (b).p (.slice pb b.p.2.2.length cb)) (HM8.out.sub 0 rfl (rgC_pl)) Tryz.underlying73 ?_
  dsimp only [plC]
  refine wD2h 17 [_, _] [_, _, _] Tryz.call167 (rcompare_d R _ a.p.1 a.p.2.1 a.p.2.2 ha la _ b.p.1 b.p.2.1 b.p.2.2 hb lb) HM8 [2] fun W10 HM11 => ?_
  refine wT [18, 19, 20] ?_
  refine wZ (wp_ret (bodyPost_ret (results_tmp rfl _ _ _) rfl ?_))
  rw [hc.out]
  exact does_ret (Mem.only (M := [_]) HM11.out [0] rfl) rfl rfl
set_option maxHeartbeats 4000000 in
set_option maxRecDepth 100000 in
theorem rmayR_d (R : At) (va : Value) (a : Rg) (ha : Reads elemI R va a.p.2.2) (la : a.p.2.2.length ≤ 1000) : Does Tryz.prog 122 #[rgV a va] [R] (.bool (mayR a)) [R] := by
 intro w H hp
 have HM0 := Lib.hid (mem_refl hp)
 clear hp
 obtain ⟨pa, ca, rfl⟩ := row_form (Mem.src HM0.out 0 rfl ha)
 go_enter Tryz.func122, Tryz.ntmps122
 refine wp_seq (wN [(0, 3), (1, 1)] ?_)
 refine wBh 0 HM0 fun b3 W2 HM4 => ?_
 refine wT [1] ?_
 refine wZ (wp_seq (wp_seq (wN [(0, 1), (1, 1), (2, 1)] (wT [0] ?_))))
 refine wL 1 (stC (a).s) (HM4.out.sub 0 rfl (rgC_st)) Tryz.underlying39 ?_
 refine wT [2] ?_
 refine wZ (wp_block ?_)
 refine wp_loop_F [2, 4, 9, 10, 11, 12, 13, 14, 15, 16, 17, 18] (fun n vs W' => ∃ k : Nat, n = 8 - k ∧ vs 9 = .int .i64 (k : Int) ∧ k ≤ 8 ∧ (∀ j, j < k → statB (a.s j) = true) ∧ Mem [boxT b3 (.cells (rgC a (.slice pa a.p.2.2.length ca)).toArray 78 (0, 0)), R] H w W') (n0 := 8) ?_ ?_
 ·exact ⟨0, rfl, rfl, Nat.zero_le _, fun j h => by omega, (Mem.only (M := [_, _]) HM4.out [0, 0] rfl)⟩
 rintro n vs W' ⟨k, rfl, e9, hk, hf', hm⟩
 simp only [putAll, List.map_cons, List.map_nil, Act.put, List.setIfInBounds_toArray, List.set_cons_succ, List.set_cons_zero]
 rw [e9]
 clear e9
 have hf := Lib.hid hf'
 clear hf'
 have HM5 := Lib.hid hm
 clear hm
 refine wp_seq (wQ ?_)
 refine wp_seq ?_
 refine wp_cond_split rfl (fun h6 => ?_) (fun h6 => ?_)
 ·have hk1 : k + 1 ≤ 8 := by have : (k : Int) < 8 := (by simpa using h6); omega
  clear h6
  refine wp_skip (then_normal (wp_seq (wp_block (wp_seq (wN [(0, 1), (1, 1)] ?_)))))
  refine wR 0 (run_indexSt (f := a.s) (j := k) (by omega) rfl rfl rfl) ?_
  refine wT [1] ?_
  refine wZ (wp_seq ?_)
  rcases (show a.s k < 0 ∨ (¬ a.s k < 0 ∧ 4 < a.s k) ∨ (¬ a.s k < 0 ∧ ¬ 4 < a.s k) from by omega) with h1 | ⟨h1, h2⟩ | ⟨h1, h2⟩
  ·have g1 := decide_eq_true h1
   have hst : Hid (statB (a.s k) = false) := Lib.hid (decide_eq_false (by omega))
   clear h1
   refine wQ ?_
   refine wp_cond_true rfl (wp_seq (wQ ?_))
   refine wp_ret ?_
   refine block_ret (then_ret (then_ret (block_ret (then_ret ?_))))
   refine bodyPost_ret (results_tmp rfl _ _ _) rfl ?_
   rw [mayR_noS (by omega) hst.out]
   exact does_ret (Mem.only (M := [_]) HM5.out [1] rfl) rfl rfl
  ·have g1 := decide_eq_false h1
   have g2 := decide_eq_true h2
   have hst : Hid (statB (a.s k) = false) := Lib.hid (decide_eq_false (by omega))
   clear h1 h2
   refine wQ ?_
   refine wp_cond_true rfl (wp_seq (wQ ?_))
   refine wp_ret ?_
   refine block_ret (then_ret (then_ret (block_ret (then_ret ?_))))
   refine bodyPost_ret (results_tmp rfl _ _ _) rfl ?_
   rw [mayR_noS (by omega) hst.out]
   exact does_ret (Mem.only (M := [_]) HM5.out [1] rfl) rfl rfl
  ·have g1 := decide_eq_false h1
   have g2 := decide_eq_false h2
   have hst : Hid (statB (a.s k) = true) := Lib.hid (decide_eq_true (by omega))
   clear h1 h2
   refine wQ ?_
   refine wp_cond_false rfl (wp_skip (block_normal (then_normal (wQ ?_))))
   refine ⟨by kernel_rfl, ?_⟩
   refine ⟨8 - (k + 1), by omega, k + 1, rfl, rfl, hk1, all_next hf.out hst.out, (Mem.only (M := [_, _]) HM5.out [0, 0] rfl)⟩
 ·have hk8 : Hid (8 ≤ k) := Lib.hid (by have : ¬ (k : Int) < 8 := (by simpa using h6); omega)
  clear h6
  refine wp_exit ?_
  refine then_exit (then_exit (block_exit ?_))
  refine then_normal (wp_seq (wp_seq (wN [(0, 1), (1, 1), (2, 1)] (wT [0] ?_))))
  refine wL 1 (enC (a).e) (HM5.out.sub 0 rfl (rgC_en)) Tryz.underlying76 ?_
  refine wT [2] ?_
  refine wZ (wp_block ?_)
  refine wp_loop_F [2, 6, 21, 22, 23, 24, 25, 26, 27] (fun n ws W' => ∃ i : Nat, n = 16 - i ∧ ws 21 = .int .i64 (i : Int) ∧ i ≤ 16 ∧ (∀ j, j < i → mayE (a.e j) = true) ∧ Mem [boxT b3 (.cells (rgC a (.slice pa a.p.2.2.length ca)).toArray 78 (0, 0)), R] H w W') (n0 := 16) ?_ ?_
  ·exact ⟨0, rfl, rfl, Nat.zero_le _, fun j h => by omega, (Mem.only (M := [_, _]) HM5.out [0, 0] rfl)⟩
  rintro n ws W' ⟨i, rfl, e21, hi, hg', hm2⟩
  simp only [putAll, List.map_cons, List.map_nil, Act.put, List.setIfInBounds_toArray, List.set_cons_succ, List.set_cons_zero]
  rw [e21]
  clear e21
  have hg := Lib.hid hg'
  clear hg'
  have HM7 := Lib.hid hm2
  clear hm2
  refine wp_seq (wQ ?_)
  refine wp_seq ?_
  refine wp_cond_split rfl (fun h8 => ?_) (fun h8 => ?_)
  ·have hi1 : i + 1 ≤ 16 := by have : (i : Int) < 16 := (by simpa using h8); omega
   clear h8
   refine wp_skip (then_normal (wp_seq (wp_block (wp_seq (wN [(0, 1), (1, 3), (2, 3)] ?_)))))
   refine wR 0 (run_indexEnt (f := a.e) (j := i) (by omega) rfl rfl rfl) ?_
   dsimp only [eV]
   refine wpS_alloc (i := 1) (dd := 6) (z := .agg #[.int .i64 0, .int .i64 0]) (cs := #[.int .i64 0, .int .i64 0]) rfl (by rfl) rfl (by kernel_rfl) rfl HM7.out covS_nil rfl ?_
   rintro b11 W10 hm9 -
   have HM12 := Lib.hid hm9
   clear hm9
   simp only [Act.put, List.setIfInBounds_toArray, List.set_cons_succ, List.set_cons_zero]
   refine wXh 2 [_, _] [_, _] HM12 0 fun W14 HM15 => ?_
   refine wZ (wp_seq ?_)
   rcases Bool.eq_false_or_eq_true (mayE (a.e i)) with hmy | hmy
   ·replace hmy := Lib.hid hmy
    refine wN [(0, 1), (1, 3), (2, 1)] ?_
    have Cb6 := Mem.cell HM15.out 0 rfl
    refine wT [0] ?_
    clear Cb6
    refine wD1 1 [_, _, _] [_, _, _] Tryz.call147 (remay_d (a.e i).1 (a.e i).2) HM15 [] fun W17 hm16 => ?_
    rw [show mayE ((a.e i).1, (a.e i).2) = mayE (a.e i) from rfl, hmy.out]
    have HM18 := Lib.hid hm16
    clear hm16
    refine wT [2] ?_
    refine wZ (wp_cond_false rfl (wp_skip (block_normal (then_normal (wQ ?_)))))
    refine ⟨by kernel_rfl, ?_⟩
    refine ⟨16 - (i + 1), by omega, i + 1, rfl, rfl, hi1, all_next hg.out hmy.out, (Mem.only (M := [_, _]) HM18.out [1, 1] rfl)⟩
   ·replace hmy := Lib.hid hmy
    refine wN [(0, 1), (1, 3), (2, 1)] ?_
    have Cb6 := Mem.cell HM15.out 0 rfl
    refine wT [0] ?_
    clear Cb6
    refine wD1 1 [_, _, _] [_, _, _] Tryz.call147 (remay_d (a.e i).1 (a.e i).2) HM15 [] fun W20 hm19 => ?_
    rw [show mayE ((a.e i).1, (a.e i).2) = mayE (a.e i) from rfl, hmy.out]
    have HM21 := Lib.hid hm19
    clear hm19
    refine wT [2] ?_
    refine wZ (wp_cond_true rfl (wp_seq (wQ ?_)))
    refine wp_ret ?_
    refine block_ret (then_ret (then_ret (block_ret (then_ret ?_))))
    refine bodyPost_ret (results_tmp rfl _ _ _) rfl ?_
    rw [mayR_noE (by omega) hmy.out]
    exact does_ret (Mem.only (M := [_]) HM21.out [2] rfl) rfl rfl
  ·have hk16 : Hid (16 ≤ i) := Lib.hid (by have : ¬ (i : Int) < 16 := (by simpa using h8); omega)
   clear h8
   refine wp_exit ?_
   refine then_exit (then_exit (block_exit ?_))
   refine then_normal (wp_seq (wN [(0, 1), (1, 1), (2, 3), (3, 1)] (wT [0] ?_)))
   refine wL 1 (plC (a).p (.slice pa a.p.2.2.length ca)) (HM7.out.sub 0 rfl (rgC_pl)) Tryz.underlying73 ?_
   dsimp only [plC]
   refine wD1h 2 [_] [_, _] Tryz.call148 (rmay_d R _ a.p.1 a.p.2.1 a.p.2.2 ha la) HM7 [1] fun W23 HM24 => ?_
   refine wT [3] ?_
   refine wZ (wp_ret (bodyPost_ret (results_tmp rfl _ _ _) rfl ?_))
   rw [mayR_p (fun j hj => hf.out j (by have := hk8.out; omega)) (fun j hj => hg.out j (by have := hk16.out; omega))]
   exact does_ret (Mem.only (M := [_]) HM24.out [0] rfl) rfl rfl
end Go.Proofs.YtcbnhakfijiioaaGreat
