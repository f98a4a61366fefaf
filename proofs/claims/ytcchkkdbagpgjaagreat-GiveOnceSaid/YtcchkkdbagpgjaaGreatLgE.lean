/- LgE: LgS, LgE. -/
import Derived.Test.YtcchkkdbagpgjaaGreatQ14
import Derived.Test.YtcchkkdbagpgjaaGreatQ18
import Derived.Test.YtcchkkdbagpgjaaGreatBgE
import Derived.Test.YtcchkkdbagpgjaaGreatQ16
import Derived.Test.YtcchkkdbagpgjaaGreatRgC
import Derived.Test.YtcchkkdbagpgjaaGreatPB
import Derived.Test.YtcchkkdbagpgjaaGreatPA
namespace Go.Proofs.YtcchkkdbagpgjaaGreat
section
open Go Go.RowKit Go.BigFrame
section
variable {W : World} {a : Act} {o : Oper}
theorem run_eqS {x y : Operand} {tt : TypeId} {s t : ByteArray} {b : Bool} (hb : decide (s = t) = b) (ho : o.op = .binOp .eql 9 x y tt) (hx : a.eval x = .string s) (hy : a.eval y = .string t) : (execOp a.eval o).run Tryz.prog W = .ok (.value (.bool b)) W := by
 subst hb
 have hg : (eqGuard .eql 9 x y (.string s) (.string t)).run Tryz.prog W = .ok () W := by simp [eqGuard, go_sem]
 unfold execOp
 simp only [ho, hx, hy, Sem.run_bind, hg, Result.andThen_ok, binOp_string_eql, Sem.run_pure]
 rw [bytes_beq]
end
theorem sameD_kind {a b : Dd} (h : a.kind ≠ b.kind) : sameD a b = false := by
 unfold sameD
 rw [decide_eq_false h]
 rfl
theorem sameD_n {a b : Dd} (h : a.n ≠ b.n) : sameD a b = false := by
 unfold sameD
 rw [decide_eq_false h, Bool.false_and, Bool.and_false]
theorem sameD_key {a b : Dd} (h : a.key ≠ b.key) : sameD a b = false := by
 unfold sameD
 rw [decide_eq_false h, Bool.false_and, Bool.and_false, Bool.and_false]
theorem sameD_part {a b : Dd} (h : a.part ≠ b.part) : sameD a b = false := by
 unfold sameD
 rw [decide_eq_false h, Bool.false_and, Bool.and_false, Bool.and_false, Bool.and_false]
theorem sameD_bag {a b : Dd} (h : sameB a.b b.b = false) : sameD a b = false := by
 unfold sameD
 rw [h, Bool.false_and, Bool.and_false, Bool.and_false, Bool.and_false, Bool.and_false]
theorem sameD_all {a b : Dd} (h1 : a.kind = b.kind) (h2 : a.n = b.n) (h3 : a.key = b.key) (h4 : a.part = b.part) (h5 : sameB a.b b.b = true) : sameD a b = sameR a.r b.r := by
 unfold sameD
 rw [decide_eq_true h1, decide_eq_true h2, decide_eq_true h3, decide_eq_true h4, h5]
 simp only [Bool.true_and]
theorem same_ways (a b : Dd) : a.kind ≠ b.kind ∨ (a.kind = b.kind ∧ a.n ≠ b.n) ∨ (a.kind = b.kind ∧ a.n = b.n ∧ a.key ≠ b.key) ∨ (a.kind = b.kind ∧ a.n = b.n ∧ a.key = b.key ∧ a.part ≠ b.part) ∨ (a.kind = b.kind ∧ a.n = b.n ∧ a.key = b.key ∧ a.part = b.part ∧ sameB a.b b.b = false) ∨ (a.kind = b.kind ∧ a.n = b.n ∧ a.key = b.key ∧ a.part = b.part ∧ sameB a.b b.b = true) := by
 by_cases h1 : a.kind = b.kind
 ·by_cases h2 : a.n = b.n
  ·by_cases h3 : a.key = b.key
   ·by_cases h4 : a.part = b.part
    ·cases h5 : sameB a.b b.b
     ·exact .inr (.inr (.inr (.inr (.inl ⟨h1, h2, h3, h4, rfl⟩))))
     ·exact .inr (.inr (.inr (.inr (.inr ⟨h1, h2, h3, h4, rfl⟩))))
    ·exact .inr (.inr (.inr (.inl ⟨h1, h2, h3, h4⟩)))
   ·exact .inr (.inr (.inl ⟨h1, h2, h3⟩))
  ·exact .inr (.inl ⟨h1, h2⟩)
 ·exact .inl h1
end
section
open Go Go.RowKit Go.BigFrame
set_option maxHeartbeats 4000000 in
set_option maxRecDepth 100000 in
theorem lkey_d (s : ByteArray) : Does Tryz.prog 155 #[.string s] [] (.bool (keyB s)) [] := by
 intro w H hp
 have HM0 := Lib.hid (mem_refl hp)
 clear hp
 go_enter Tryz.func155, Tryz.ntmps155
 refine wp_seq (wQ ?_)
 refine wp_seq ?_
 by_cases h1 : 1 ≤ s.size <;> by_cases h2 : s.size ≤ 32
 ·have hc : Hid (keyB s = true) := Lib.hid (by unfold keyB; exact decide_eq_true (by omega))
  have g1 : decide ((1 : Int) ≤ (s.size : Int)) = true := decide_eq_true (by omega)
  have g1' : decide (1 ≤ s.size) = true := decide_eq_true (by omega)
  have g2 : decide ((s.size : Int) ≤ 32) = true := decide_eq_true (by omega)
  have g2' : decide (s.size ≤ 32) = true := decide_eq_true (by omega)
  replace h1 := Lib.hid h1
  replace h2 := Lib.hid h2
  refine wQ ?_
  refine wp_ret (bodyPost_ret (results_tmp rfl _ _ _) rfl ?_)
  rw [hc.out]
  exact does_ret (Mem.only (M := []) HM0.out [] rfl) rfl rfl
 ·have hc : Hid (keyB s = false) := Lib.hid (by unfold keyB; exact decide_eq_false (by omega))
  have g1 : decide ((1 : Int) ≤ (s.size : Int)) = true := decide_eq_true (by omega)
  have g1' : decide (1 ≤ s.size) = true := decide_eq_true (by omega)
  have g2 : decide ((s.size : Int) ≤ 32) = false := decide_eq_false (by omega)
  have g2' : decide (s.size ≤ 32) = false := decide_eq_false (by omega)
  replace h1 := Lib.hid h1
  replace h2 := Lib.hid h2
  refine wQ ?_
  refine wp_ret (bodyPost_ret (results_tmp rfl _ _ _) rfl ?_)
  rw [hc.out]
  exact does_ret (Mem.only (M := []) HM0.out [] rfl) rfl rfl
 ·have hc : Hid (keyB s = false) := Lib.hid (by unfold keyB; exact decide_eq_false (by omega))
  have g1 : decide ((1 : Int) ≤ (s.size : Int)) = false := decide_eq_false (by omega)
  have g1' : decide (1 ≤ s.size) = false := decide_eq_false (by omega)
  have g2 : decide ((s.size : Int) ≤ 32) = true := decide_eq_true (by omega)
  have g2' : decide (s.size ≤ 32) = true := decide_eq_true (by omega)
  replace h1 := Lib.hid h1
  replace h2 := Lib.hid h2
  refine wQ ?_
  refine wp_ret (bodyPost_ret (results_tmp rfl _ _ _) rfl ?_)
  rw [hc.out]
  exact does_ret (Mem.only (M := []) HM0.out [] rfl) rfl rfl
 ·have hc : Hid (keyB s = false) := Lib.hid (by unfold keyB; exact decide_eq_false (by omega))
  have g1 : decide ((1 : Int) ≤ (s.size : Int)) = false := decide_eq_false (by omega)
  have g1' : decide (1 ≤ s.size) = false := decide_eq_false (by omega)
  have g2 : decide ((s.size : Int) ≤ 32) = false := decide_eq_false (by omega)
  have g2' : decide (s.size ≤ 32) = false := decide_eq_false (by omega)
  replace h1 := Lib.hid h1
  replace h2 := Lib.hid h2
  refine wQ ?_
  refine wp_ret (bodyPost_ret (results_tmp rfl _ _ _) rfl ?_)
  rw [hc.out]
  exact does_ret (Mem.only (M := []) HM0.out [] rfl) rfl rfl
set_option maxHeartbeats 4000000 in
set_option maxRecDepth 100000 in
theorem lupto_d (n m : Int) : Does Tryz.prog 152 #[.int .i64 n, .int .i64 m] [] (.bool (decide (0 ≤ n ∧ n ≤ m))) [] := by
 intro w H hp
 have HM0 := Lib.hid (mem_refl hp)
 clear hp
 go_enter Tryz.func152, Tryz.ntmps152
 refine wp_seq (wQ ?_)
 refine wp_seq ?_
 by_cases h1 : 0 ≤ n <;> by_cases h2 : n ≤ m
 ·have hc : Hid (decide (0 ≤ n ∧ n ≤ m) = true) := Lib.hid (decide_eq_true (by omega))
  have g1 : decide ((0 : Int) ≤ n) = true := decide_eq_true h1
  have g2 : decide (n ≤ m) = true := decide_eq_true h2
  replace h1 := Lib.hid h1
  replace h2 := Lib.hid h2
  refine wQ ?_
  refine wp_ret (bodyPost_ret (results_tmp rfl _ _ _) rfl ?_)
  rw [hc.out]
  exact does_ret (Mem.only (M := []) HM0.out [] rfl) rfl rfl
 ·have hc : Hid (decide (0 ≤ n ∧ n ≤ m) = false) := Lib.hid (decide_eq_false (by omega))
  have g1 : decide ((0 : Int) ≤ n) = true := decide_eq_true h1
  have g2 : decide (n ≤ m) = false := decide_eq_false h2
  replace h1 := Lib.hid h1
  replace h2 := Lib.hid h2
  refine wQ ?_
  refine wp_ret (bodyPost_ret (results_tmp rfl _ _ _) rfl ?_)
  rw [hc.out]
  exact does_ret (Mem.only (M := []) HM0.out [] rfl) rfl rfl
 ·have hc : Hid (decide (0 ≤ n ∧ n ≤ m) = false) := Lib.hid (decide_eq_false (by omega))
  have g1 : decide ((0 : Int) ≤ n) = false := decide_eq_false h1
  have g2 : decide (n ≤ m) = true := decide_eq_true h2
  replace h1 := Lib.hid h1
  replace h2 := Lib.hid h2
  refine wQ ?_
  refine wp_ret (bodyPost_ret (results_tmp rfl _ _ _) rfl ?_)
  rw [hc.out]
  exact does_ret (Mem.only (M := []) HM0.out [] rfl) rfl rfl
 ·have hc : Hid (decide (0 ≤ n ∧ n ≤ m) = false) := Lib.hid (decide_eq_false (by omega))
  have g1 : decide ((0 : Int) ≤ n) = false := decide_eq_false h1
  have g2 : decide (n ≤ m) = false := decide_eq_false h2
  replace h1 := Lib.hid h1
  replace h2 := Lib.hid h2
  refine wQ ?_
  refine wp_ret (bodyPost_ret (results_tmp rfl _ _ _) rfl ?_)
  rw [hc.out]
  exact does_ret (Mem.only (M := []) HM0.out [] rfl) rfl rfl
set_option maxHeartbeats 4000000 in
set_option maxRecDepth 100000 in
theorem lpart_d (n : Int) : Does Tryz.prog 156 #[.int .i64 n] [] (.bool (decide (0 ≤ n ∧ n < 16))) [] := by
 intro w H hp
 have HM0 := Lib.hid (mem_refl hp)
 clear hp
 go_enter Tryz.func156, Tryz.ntmps156
 refine wp_seq (wQ ?_)
 refine wp_seq ?_
 by_cases h1 : 0 ≤ n <;> by_cases h2 : n < 16
 ·have hc : Hid (decide (0 ≤ n ∧ n < 16) = true) := Lib.hid (decide_eq_true (by omega))
  have g1 : decide ((0 : Int) ≤ n) = true := decide_eq_true h1
  have g2 : decide (n < 16) = true := decide_eq_true h2
  replace h1 := Lib.hid h1
  replace h2 := Lib.hid h2
  refine wQ ?_
  refine wp_ret (bodyPost_ret (results_tmp rfl _ _ _) rfl ?_)
  rw [hc.out]
  exact does_ret (Mem.only (M := []) HM0.out [] rfl) rfl rfl
 ·have hc : Hid (decide (0 ≤ n ∧ n < 16) = false) := Lib.hid (decide_eq_false (by omega))
  have g1 : decide ((0 : Int) ≤ n) = true := decide_eq_true h1
  have g2 : decide (n < 16) = false := decide_eq_false h2
  replace h1 := Lib.hid h1
  replace h2 := Lib.hid h2
  refine wQ ?_
  refine wp_ret (bodyPost_ret (results_tmp rfl _ _ _) rfl ?_)
  rw [hc.out]
  exact does_ret (Mem.only (M := []) HM0.out [] rfl) rfl rfl
 ·have hc : Hid (decide (0 ≤ n ∧ n < 16) = false) := Lib.hid (decide_eq_false (by omega))
  have g1 : decide ((0 : Int) ≤ n) = false := decide_eq_false h1
  have g2 : decide (n < 16) = true := decide_eq_true h2
  replace h1 := Lib.hid h1
  replace h2 := Lib.hid h2
  refine wQ ?_
  refine wp_ret (bodyPost_ret (results_tmp rfl _ _ _) rfl ?_)
  rw [hc.out]
  exact does_ret (Mem.only (M := []) HM0.out [] rfl) rfl rfl
 ·have hc : Hid (decide (0 ≤ n ∧ n < 16) = false) := Lib.hid (decide_eq_false (by omega))
  have g1 : decide ((0 : Int) ≤ n) = false := decide_eq_false h1
  have g2 : decide (n < 16) = false := decide_eq_false h2
  replace h1 := Lib.hid h1
  replace h2 := Lib.hid h2
  refine wQ ?_
  refine wp_ret (bodyPost_ret (results_tmp rfl _ _ _) rfl ?_)
  rw [hc.out]
  exact does_ret (Mem.only (M := []) HM0.out [] rfl) rfl rfl
set_option maxHeartbeats 4000000 in
set_option maxRecDepth 100000 in
theorem lsame_d (R : At) (va ra : Value) (a : Dd) (ha : DdR R a va ra) (vb rb : Value) (b : Dd) (hb : DdR R b vb rb) : Does Tryz.prog 153 #[ddV a va ra, ddV b vb rb] [R] (.bool (sameD a b)) [R] := by
 intro w H hp
 have HM0 := Lib.hid (mem_refl hp)
 clear hp
 obtain ⟨pva, cva, rfl⟩ := row_form (Mem.src HM0.out 0 rfl ha.v)
 obtain ⟨pra, cra, rfl⟩ := row_form (Mem.src HM0.out 0 rfl ha.r)
 obtain ⟨pvb, cvb, rfl⟩ := row_form (Mem.src HM0.out 0 rfl hb.v)
 obtain ⟨prb, crb, rfl⟩ := row_form (Mem.src HM0.out 0 rfl hb.r)
 go_enter Tryz.func153, Tryz.ntmps153
 refine wp_seq (wN [(0, 3), (1, 3), (2, 1)] ?_)
 refine wBh 0 HM0 fun b3 W2 HM4 => ?_
 refine wBh 1 HM4 fun b7 W6 HM8 => ?_
 refine wT [2] ?_
 refine wZ (wp_seq ?_)
 rcases same_ways a b with h1 | ⟨h1, h2⟩ | ⟨h1, h2, h3⟩ | ⟨h1, h2, h3, h4⟩ | ⟨h1, h2, h3, h4, h5⟩ | ⟨h1, h2, h3, h4, h5⟩
 ·have hc := Lib.hid (sameD_kind h1)
  have g1 : (a.kind == b.kind) = false := beq_eq_false_iff_ne.2 h1
  replace h1 := Lib.hid h1
  refine wN [(0, 1), (1, 1), (2, 1), (3, 1), (4, 1), (5, 1), (6, 1), (7, 1), (8, 1), (9, 1), (10, 1), (11, 1), (12, 1), (13, 1), (14, 1), (15, 1), (16, 1), (17, 1), (18, 1), (19, 1), (20, 1), (21, 1), (22, 1), (23, 1), (24, 1), (25, 1), (26, 1), (27, 1), (28, 1), (29, 1), (30, 1), (31, 3), (32, 1), (33, 1), (34, 1), (35, 1), (36, 1), (37, 1), (38, 3), (39, 1), (40, 1)] (wT [0] ?_)
  refine wM 1 (.int .i64 (a).kind) (HM8.out.part1 1 rfl rfl) Tryz.underlying3 ?_
  refine wT [2] ?_
  refine wM 3 (.int .i64 (b).kind) (HM8.out.part1 0 rfl rfl) Tryz.underlying3 ?_
  refine wT [4, 5, 6] ?_
  refine wK 7 ?_
  refine wT [8] ?_
  refine wK 9 ?_
  refine wT [10, 11, 12, 13] ?_
  refine wK 14 ?_
  refine wT [15] ?_
  refine wK 16 ?_
  refine wK 17 ?_
  refine wT [18, 19, 20] ?_
  refine wK 21 ?_
  refine wT [22] ?_
  refine wK 23 ?_
  refine wT [24, 25, 26, 27] ?_
  refine wK 28 ?_
  refine wT [29] ?_
  refine wK 30 ?_
  refine wK 31 ?_
  refine wT [32, 33, 34] ?_
  refine wK 35 ?_
  refine wT [36] ?_
  refine wK 37 ?_
  refine wK 38 ?_
  refine wT [39, 40] ?_
  refine wZ (wp_ret (bodyPost_ret (results_tmp rfl _ _ _) rfl ?_))
  rw [hc.out]
  exact does_ret (Mem.only (M := [_]) HM8.out [2] rfl) rfl rfl
 ·have hc := Lib.hid (sameD_n h2)
  have g1 : (a.kind == b.kind) = true := beq_iff_eq.2 h1
  have g2 : (a.n == b.n) = false := beq_eq_false_iff_ne.2 h2
  replace h1 := Lib.hid h1
  replace h2 := Lib.hid h2
  refine wN [(0, 1), (1, 1), (2, 1), (3, 1), (4, 1), (5, 1), (6, 1), (7, 1), (8, 1), (9, 1), (10, 1), (11, 1), (12, 1), (13, 1), (14, 1), (15, 1), (16, 1), (17, 1), (18, 1), (19, 1), (20, 1), (21, 1), (22, 1), (23, 1), (24, 1), (25, 1), (26, 1), (27, 1), (28, 1), (29, 1), (30, 1), (31, 3), (32, 1), (33, 1), (34, 1), (35, 1), (36, 1), (37, 1), (38, 3), (39, 1), (40, 1)] (wT [0] ?_)
  refine wM 1 (.int .i64 (a).kind) (HM8.out.part1 1 rfl rfl) Tryz.underlying3 ?_
  refine wT [2] ?_
  refine wM 3 (.int .i64 (b).kind) (HM8.out.part1 0 rfl rfl) Tryz.underlying3 ?_
  refine wT [4, 5, 6] ?_
  refine wM 7 (.int .i64 (a).n) (HM8.out.part1 1 rfl rfl) Tryz.underlying3 ?_
  refine wT [8] ?_
  refine wM 9 (.int .i64 (b).n) (HM8.out.part1 0 rfl rfl) Tryz.underlying3 ?_
  refine wT [10, 11, 12, 13] ?_
  refine wK 14 ?_
  refine wT [15] ?_
  refine wK 16 ?_
  refine wK 17 ?_
  refine wT [18, 19, 20] ?_
  refine wK 21 ?_
  refine wT [22] ?_
  refine wK 23 ?_
  refine wT [24, 25, 26, 27] ?_
  refine wK 28 ?_
  refine wT [29] ?_
  refine wK 30 ?_
  refine wK 31 ?_
  refine wT [32, 33, 34] ?_
  refine wK 35 ?_
  refine wT [36] ?_
  refine wK 37 ?_
  refine wK 38 ?_
  refine wT [39, 40] ?_
  refine wZ (wp_ret (bodyPost_ret (results_tmp rfl _ _ _) rfl ?_))
  rw [hc.out]
  exact does_ret (Mem.only (M := [_]) HM8.out [2] rfl) rfl rfl
 ·have hc := Lib.hid (sameD_key h3)
  have g1 : (a.kind == b.kind) = true := beq_iff_eq.2 h1
  have g2 : (a.n == b.n) = true := beq_iff_eq.2 h2
  have g3 := decide_eq_false h3
  replace h1 := Lib.hid h1
  replace h2 := Lib.hid h2
  replace h3 := Lib.hid h3
  refine wN [(0, 1), (1, 1), (2, 1), (3, 1), (4, 1), (5, 1), (6, 1), (7, 1), (8, 1), (9, 1), (10, 1), (11, 1), (12, 1), (13, 1), (14, 1), (15, 1), (16, 1), (17, 1), (18, 1), (19, 1), (20, 1), (21, 1), (22, 1), (23, 1), (24, 1), (25, 1), (26, 1), (27, 1), (28, 1), (29, 1), (30, 1), (31, 3), (32, 1), (33, 1), (34, 1), (35, 1), (36, 1), (37, 1), (38, 3), (39, 1), (40, 1)] (wT [0] ?_)
  refine wM 1 (.int .i64 (a).kind) (HM8.out.part1 1 rfl rfl) Tryz.underlying3 ?_
  refine wT [2] ?_
  refine wM 3 (.int .i64 (b).kind) (HM8.out.part1 0 rfl rfl) Tryz.underlying3 ?_
  refine wT [4, 5, 6] ?_
  refine wM 7 (.int .i64 (a).n) (HM8.out.part1 1 rfl rfl) Tryz.underlying3 ?_
  refine wT [8] ?_
  refine wM 9 (.int .i64 (b).n) (HM8.out.part1 0 rfl rfl) Tryz.underlying3 ?_
  refine wT [10, 11, 12, 13] ?_
  refine wM 14 (.string (a).key) (HM8.out.part1 1 rfl rfl) Tryz.underlying9 ?_
  refine wT [15] ?_
  refine wM 16 (.string (b).key) (HM8.out.part1 0 rfl rfl) Tryz.underlying9 ?_
  refine wR 17 (run_eqS g3 rfl rfl rfl) ?_
  refine wT [18, 19, 20] ?_
  refine wK 21 ?_
  refine wT [22] ?_
  refine wK 23 ?_
  refine wT [24, 25, 26, 27] ?_
  refine wK 28 ?_
  refine wT [29] ?_
  refine wK 30 ?_
  refine wK 31 ?_
  refine wT [32, 33, 34] ?_
  refine wK 35 ?_
  refine wT [36] ?_
  refine wK 37 ?_
  refine wK 38 ?_
  refine wT [39, 40] ?_
  refine wZ (wp_ret (bodyPost_ret (results_tmp rfl _ _ _) rfl ?_))
  rw [hc.out]
  exact does_ret (Mem.only (M := [_]) HM8.out [2] rfl) rfl rfl
 ·have hc := Lib.hid (sameD_part h4)
  have g1 : (a.kind == b.kind) = true := beq_iff_eq.2 h1
  have g2 : (a.n == b.n) = true := beq_iff_eq.2 h2
  have g3 := decide_eq_true h3
  have g4 : (a.part == b.part) = false := beq_eq_false_iff_ne.2 h4
  replace h1 := Lib.hid h1
  replace h2 := Lib.hid h2
  replace h3 := Lib.hid h3
  replace h4 := Lib.hid h4
  refine wN [(0, 1), (1, 1), (2, 1), (3, 1), (4, 1), (5, 1), (6, 1), (7, 1), (8, 1), (9, 1), (10, 1), (11, 1), (12, 1), (13, 1), (14, 1), (15, 1), (16, 1), (17, 1), (18, 1), (19, 1), (20, 1), (21, 1), (22, 1), (23, 1), (24, 1), (25, 1), (26, 1), (27, 1), (28, 1), (29, 1), (30, 1), (31, 3), (32, 1), (33, 1), (34, 1), (35, 1), (36, 1), (37, 1), (38, 3), (39, 1), (40, 1)] (wT [0] ?_)
  refine wM 1 (.int .i64 (a).kind) (HM8.out.part1 1 rfl rfl) Tryz.underlying3 ?_
  refine wT [2] ?_
  refine wM 3 (.int .i64 (b).kind) (HM8.out.part1 0 rfl rfl) Tryz.underlying3 ?_
  refine wT [4, 5, 6] ?_
  refine wM 7 (.int .i64 (a).n) (HM8.out.part1 1 rfl rfl) Tryz.underlying3 ?_
  refine wT [8] ?_
  refine wM 9 (.int .i64 (b).n) (HM8.out.part1 0 rfl rfl) Tryz.underlying3 ?_
  refine wT [10, 11, 12, 13] ?_
  refine wM 14 (.string (a).key) (HM8.out.part1 1 rfl rfl) Tryz.underlying9 ?_
  refine wT [15] ?_
  refine wM 16 (.string (b).key) (HM8.out.part1 0 rfl rfl) Tryz.underlying9 ?_
  refine wR 17 (run_eqS g3 rfl rfl rfl) ?_
  refine wT [18, 19, 20] ?_
  refine wM 21 (.int .i64 (a).part) (HM8.out.part1 1 rfl ddC_part) Tryz.underlying3 ?_
  refine wT [22] ?_
  refine wM 23 (.int .i64 (b).part) (HM8.out.part1 0 rfl ddC_part) Tryz.underlying3 ?_
  refine wT [24, 25, 26, 27] ?_
  refine wK 28 ?_
  refine wT [29] ?_
  refine wK 30 ?_
  refine wK 31 ?_
  refine wT [32, 33, 34] ?_
  refine wK 35 ?_
  refine wT [36] ?_
  refine wK 37 ?_
  refine wK 38 ?_
  refine wT [39, 40] ?_
  refine wZ (wp_ret (bodyPost_ret (results_tmp rfl _ _ _) rfl ?_))
  rw [hc.out]
  exact does_ret (Mem.only (M := [_]) HM8.out [2] rfl) rfl rfl
 ·have hc := Lib.hid (sameD_bag h5)
  have g1 : (a.kind == b.kind) = true := beq_iff_eq.2 h1
  have g2 : (a.n == b.n) = true := beq_iff_eq.2 h2
  have g3 := decide_eq_true h3
  have g4 : (a.part == b.part) = true := beq_iff_eq.2 h4
  replace h1 := Lib.hid h1
  replace h2 := Lib.hid h2
  replace h3 := Lib.hid h3
  replace h4 := Lib.hid h4
  replace h5 := Lib.hid h5
  refine wN [(0, 1), (1, 1), (2, 1), (3, 1), (4, 1), (5, 1), (6, 1), (7, 1), (8, 1), (9, 1), (10, 1), (11, 1), (12, 1), (13, 1), (14, 1), (15, 1), (16, 1), (17, 1), (18, 1), (19, 1), (20, 1), (21, 1), (22, 1), (23, 1), (24, 1), (25, 1), (26, 1), (27, 1), (28, 1), (29, 1), (30, 1), (31, 3), (32, 1), (33, 1), (34, 1), (35, 1), (36, 1), (37, 1), (38, 3), (39, 1), (40, 1)] (wT [0] ?_)
  refine wM 1 (.int .i64 (a).kind) (HM8.out.part1 1 rfl rfl) Tryz.underlying3 ?_
  refine wT [2] ?_
  refine wM 3 (.int .i64 (b).kind) (HM8.out.part1 0 rfl rfl) Tryz.underlying3 ?_
  refine wT [4, 5, 6] ?_
  refine wM 7 (.int .i64 (a).n) (HM8.out.part1 1 rfl rfl) Tryz.underlying3 ?_
  refine wT [8] ?_
  refine wM 9 (.int .i64 (b).n) (HM8.out.part1 0 rfl rfl) Tryz.underlying3 ?_
  refine wT [10, 11, 12, 13] ?_
  refine wM 14 (.string (a).key) (HM8.out.part1 1 rfl rfl) Tryz.underlying9 ?_
  refine wT [15] ?_
  refine wM 16 (.string (b).key) (HM8.out.part1 0 rfl rfl) Tryz.underlying9 ?_
  refine wR 17 (run_eqS g3 rfl rfl rfl) ?_
  refine wT [18, 19, 20] ?_
  refine wM 21 (.int .i64 (a).part) (HM8.out.part1 1 rfl ddC_part) Tryz.underlying3 ?_
  refine wT [22] ?_
  refine wM 23 (.int .i64 (b).part) (HM8.out.part1 0 rfl ddC_part) Tryz.underlying3 ?_
  refine wT [24, 25, 26, 27] ?_
  refine wL 28 (bgC (a).b.k (.slice pva a.b.v.length cva)) (HM8.out.part 1 rfl (ddC_bag)) Tryz.underlying41 ?_
  refine wT [29] ?_
  refine wL 30 (bgC (b).b.k (.slice pvb b.b.v.length cvb)) (HM8.out.part 0 rfl (ddC_bag)) Tryz.underlying41 ?_
  refine wpS_does2 (i := 31) (d := some 36) (rem := [_, _]) (out := [_, _, _]) rfl (by rfl) rfl Tryz.call44 (bsame_d R _ a.b ha.v ha.lv _ b.b hb.v hb.lv) rfl rfl HM8.out [2] rfl covS_nil rfl rfl ?_
  rintro W10 hm9 -
  rw [h5.out]
  have HM11 := Lib.hid hm9
  clear hm9
  simp only [Act.put, List.setIfInBounds_toArray, List.set_cons_succ, List.set_cons_zero]
  refine wT [32, 33, 34] ?_
  refine wK 35 ?_
  refine wT [36] ?_
  refine wK 37 ?_
  refine wK 38 ?_
  refine wT [39, 40] ?_
  refine wZ (wp_ret (bodyPost_ret (results_tmp rfl _ _ _) rfl ?_))
  rw [hc.out]
  exact does_ret (Mem.only (M := [_]) HM11.out [0] rfl) rfl rfl
 ·have hc := Lib.hid (sameD_all h1 h2 h3 h4 h5)
  have g1 : (a.kind == b.kind) = true := beq_iff_eq.2 h1
  have g2 : (a.n == b.n) = true := beq_iff_eq.2 h2
  have g3 := decide_eq_true h3
  have g4 : (a.part == b.part) = true := beq_iff_eq.2 h4
  replace h1 := Lib.hid h1
  replace h2 := Lib.hid h2
  replace h3 := Lib.hid h3
  replace h4 := Lib.hid h4
  replace h5 := Lib.hid h5
  refine wN [(0, 1), (1, 1), (2, 1), (3, 1), (4, 1), (5, 1), (6, 1), (7, 1), (8, 1), (9, 1), (10, 1), (11, 1), (12, 1), (13, 1), (14, 1), (15, 1), (16, 1), (17, 1), (18, 1), (19, 1), (20, 1), (21, 1), (22, 1), (23, 1), (24, 1), (25, 1), (26, 1), (27, 1), (28, 1), (29, 1), (30, 1), (31, 3), (32, 1), (33, 1), (34, 1), (35, 1), (36, 1), (37, 1), (38, 3), (39, 1), (40, 1)] (wT [0] ?_)
  refine wM 1 (.int .i64 (a).kind) (HM8.out.part1 1 rfl rfl) Tryz.underlying3 ?_
  refine wT [2] ?_
  refine wM 3 (.int .i64 (b).kind) (HM8.out.part1 0 rfl rfl) Tryz.underlying3 ?_
  refine wT [4, 5, 6] ?_
  refine wM 7 (.int .i64 (a).n) (HM8.out.part1 1 rfl rfl) Tryz.underlying3 ?_
  refine wT [8] ?_
  refine wM 9 (.int .i64 (b).n) (HM8.out.part1 0 rfl rfl) Tryz.underlying3 ?_
  refine wT [10, 11, 12, 13] ?_
  refine wM 14 (.string (a).key) (HM8.out.part1 1 rfl rfl) Tryz.underlying9 ?_
  refine wT [15] ?_
  refine wM 16 (.string (b).key) (HM8.out.part1 0 rfl rfl) Tryz.underlying9 ?_
  refine wR 17 (run_eqS g3 rfl rfl rfl) ?_
  refine wT [18, 19, 20] ?_
  refine wM 21 (.int .i64 (a).part) (HM8.out.part1 1 rfl ddC_part) Tryz.underlying3 ?_
  refine wT [22] ?_
  refine wM 23 (.int .i64 (b).part) (HM8.out.part1 0 rfl ddC_part) Tryz.underlying3 ?_
  refine wT [24, 25, 26, 27] ?_
  refine wL 28 (bgC (a).b.k (.slice pva a.b.v.length cva)) (HM8.out.part 1 rfl (ddC_bag)) Tryz.underlying41 ?_
  refine wT [29] ?_
  refine wL 30 (bgC (b).b.k (.slice pvb b.b.v.length cvb)) (HM8.out.part 0 rfl (ddC_bag)) Tryz.underlying41 ?_
  refine wpS_does2 (i := 31) (d := some 36) (rem := [_, _]) (out := [_, _, _]) rfl (by rfl) rfl Tryz.call44 (bsame_d R _ a.b ha.v ha.lv _ b.b hb.v hb.lv) rfl rfl HM8.out [2] rfl covS_nil rfl rfl ?_
  rintro W13 hm12 -
  rw [h5.out]
  have HM14 := Lib.hid hm12
  clear hm12
  simp only [Act.put, List.setIfInBounds_toArray, List.set_cons_succ, List.set_cons_zero]
  refine wT [32, 33, 34] ?_
  refine wL 35 (rgC (a).r (.slice pra a.r.p.2.2.length cra)) (HM14.out.part 2 rfl (ddC_ring)) Tryz.underlying49 ?_
  refine wT [36] ?_
  refine wL 37 (rgC (b).r (.slice prb b.r.p.2.2.length crb)) (HM14.out.part 1 rfl (ddC_ring)) Tryz.underlying49 ?_
  refine wpS_does2 (i := 38) (d := some 43) (rem := [_, _]) (out := [_, _, _]) rfl (by rfl) rfl Tryz.call174 (gsame_d R _ a.r ha.r ha.lr _ b.r hb.r hb.lr) rfl rfl HM14.out [0] rfl covS_nil rfl rfl ?_
  rintro W16 hm15 -
  have HM17 := Lib.hid hm15
  clear hm15
  simp only [Act.put, List.setIfInBounds_toArray, List.set_cons_succ, List.set_cons_zero]
  refine wT [39, 40] ?_
  refine wZ (wp_ret (bodyPost_ret (results_tmp rfl _ _ _) rfl ?_))
  rw [hc.out]
  exact does_ret (Mem.only (M := [_]) HM17.out [0] rfl) rfl rfl
theorem sameB_refl (b : Bg) : sameB b b = true := by
 unfold sameB
 rw [decide_eq_true rfl, decide_eq_true rfl]
 rfl
theorem sameR_refl (r : Rg) : sameR r r = true := sameR_iff.2 ⟨fun _ _ => rfl, rfl, fun _ _ => rfl⟩
section
variable {a : Dd}
theorem bare_1 : sameD a ⟨a.kind, a.n, ⟨#[]⟩, noB, noR, 0⟩ = noneD ⟨0, 0, a.key, a.b, a.r, a.part⟩ := by
 unfold noneD sameD noD
 rw [decide_eq_true (rfl : a.kind = a.kind), decide_eq_true (rfl : a.n = a.n), decide_eq_true (rfl : (0 : Int) = 0)]
theorem bare_2 : sameD a ⟨a.kind, 0, ⟨#[]⟩, noB, a.r, 0⟩ = noneD ⟨0, a.n, a.key, a.b, noR, a.part⟩ := by
 unfold noneD sameD noD
 rw [decide_eq_true (rfl : a.kind = a.kind), decide_eq_true (rfl : (0 : Int) = 0), sameR_refl, sameR_refl]
theorem bare_3 : sameD a ⟨a.kind, a.n, a.key, a.b, noR, 0⟩ = noneD ⟨0, 0, ⟨#[]⟩, noB, a.r, a.part⟩ := by
 unfold noneD sameD noD
 rw [decide_eq_true (rfl : a.kind = a.kind), decide_eq_true (rfl : a.n = a.n), decide_eq_true (rfl : a.key = a.key), decide_eq_true (rfl : (0 : Int) = 0), decide_eq_true (rfl : (⟨#[]⟩ : ByteArray) = ⟨#[]⟩), sameB_refl, sameB_refl]
theorem bare_4 : sameD a ⟨a.kind, 0, ⟨#[]⟩, noB, noR, a.part⟩ = noneD ⟨0, a.n, a.key, a.b, a.r, 0⟩ := by
 unfold noneD sameD noD
 rw [decide_eq_true (rfl : a.kind = a.kind), decide_eq_true (rfl : a.part = a.part), decide_eq_true (rfl : (0 : Int) = 0)]
end
set_option maxHeartbeats 4000000 in
set_option maxRecDepth 100000 in
theorem lmay_d (R : At) (va ra : Value) (a : Dd) (ha : DdR R a va ra) : Does Tryz.prog 137 #[ddV a va ra] [R] (.bool (mayD a)) [R] := by
 intro w H hp
 have HM0 := Lib.hid (mem_refl hp)
 clear hp
 obtain ⟨pva, cva, rfl⟩ := row_form (Mem.src HM0.out 0 rfl ha.v)
 obtain ⟨pra, cra, rfl⟩ := row_form (Mem.src HM0.out 0 rfl ha.r)
 go_enter Tryz.func137, Tryz.ntmps137
 refine wp_seq (wN [(0, 3), (1, 1)] ?_)
 refine wBh 0 HM0 fun b3 W2 HM4 => ?_
 refine wT [1] ?_
 refine wZ (wp_seq (wN [(0, 1), (1, 1), (2, 1), (3, 3), (4, 3)] (wT [0] ?_)))
 refine wM 1 (.int .i64 (a).kind) (HM4.out.part1 0 rfl rfl) Tryz.underlying3 ?_
 refine wR 2 (v := ddV ⟨a.kind, 0, ⟨#[]⟩, noB, noR, 0⟩ (.slice none 0 0) (.slice none 0 0)) (by kernel_rfl) ?_
 refine wpS_alloc (i := 3) (dd := 3) (z := ddV noD (.slice none 0 0) (.slice none 0 0)) (cs := (ddC noD (.slice none 0 0) (.slice none 0 0)).toArray) rfl (by rfl) rfl (by kernel_rfl) rfl HM4.out covS_nil rfl ?_
 rintro b7 W6 hm5 -
 have HM8 := Lib.hid hm5
 clear hm5
 simp only [Act.put, List.setIfInBounds_toArray, List.set_cons_succ, List.set_cons_zero]
 refine wpS_storeA (i := 4) (L2 := [_, _]) (cs' := ddC (⟨a.kind, 0, ⟨#[]⟩, noB, noR, 0⟩) (.slice none 0 0) (.slice none 0 0)) rfl (by rfl) rfl rfl rfl (by kernel_rfl) (ddC_one _ _ _ _ _ _) HM8.out 0 rfl rfl (by kernel_rfl) (by kernel_rfl) covS_nil rfl ?_
 rintro W10 hm9 -
 have HM11 := Lib.hid hm9
 clear hm9
 refine wZ (wp_seq (wp_seq (wN [(0, 1), (1, 1)] (wT [0] ?_))))
 refine wM 1 (.int .i64 (a).kind) (HM11.out.part1 1 rfl rfl) Tryz.underlying3 ?_
 refine wZ (wp_block (wp_seq ?_))
 rcases (show a.kind = 1 ∨ a.kind = 2 ∨ a.kind = 3 ∨ a.kind = 4 ∨ (a.kind ≠ 1 ∧ a.kind ≠ 2 ∧ a.kind ≠ 3 ∧ a.kind ≠ 4) from by omega) with hk | hk | hk | hk | hk
 ·have hc := Lib.hid ((may_1 hk).trans (by rw [← bare_1]))
  have k1 : (a.kind == 1) = true := beq_iff_eq.2 hk
  replace hk := Lib.hid hk
  refine wQ ?_
  refine wp_cond_true rfl (wp_seq (wN [(0, 1), (1, 1), (2, 1), (3, 3)] (wT [0] ?_)))
  refine wM 1 (.int .i64 (a).n) (HM11.out.part1 1 rfl rfl) Tryz.underlying3 ?_
  refine wT [2] ?_
  refine wpS_store1 (i := 3) (v := _) (L2 := [_, _]) (cs' := ddC (⟨a.kind, a.n, ⟨#[]⟩, noB, noR, 0⟩) (.slice none 0 0) (.slice none 0 0)) rfl (by rfl) rfl rfl rfl rfl (by kernel_rfl) rfl HM11.out 0 rfl rfl (by kernel_rfl) (ddC_setN _) covS_nil rfl ?_
  rintro W13 hm12 -
  have HM14 := Lib.hid hm12
  clear hm12
  refine wZ (wp_seq ?_)
  cases hm' : decide (0 ≤ a.n ∧ a.n ≤ 1000000)
  ·have hm := Lib.hid hm'
   have hn : Hid (numD a.n = false) := Lib.hid hm'
   clear hm'
   refine wN [(0, 1), (1, 1), (2, 3), (3, 1), (4, 1), (5, 1), (6, 3), (7, 1), (8, 1)] (wT [0] ?_)
   refine wM 1 (.int .i64 (a).n) (HM14.out.part1 1 rfl rfl) Tryz.underlying3 ?_
   refine wpS_does2 (i := 2) (d := some 16) (rem := [_, _, _]) (out := [_, _, _]) rfl (by rfl) rfl Tryz.call152 (lupto_d a.n 1000000) rfl rfl HM14.out [] rfl covS_nil rfl rfl ?_
   rintro W16 hm15 -
   rw [hm.out]
   have HM17 := Lib.hid hm15
   clear hm15
   simp only [Act.put, List.setIfInBounds_toArray, List.set_cons_succ, List.set_cons_zero]
   refine wT [3] ?_
   refine wK 4 ?_
   refine wK 5 ?_
   refine wK 6 ?_
   refine wT [7, 8] ?_
   refine wZ (wp_ret ?_)
   refine block_ret (then_ret ?_)
   refine bodyPost_ret (results_tmp rfl _ _ _) rfl ?_
   rw [hc.out, hn.out]
   exact does_ret (Mem.only (M := [_]) HM17.out [2] rfl) rfl rfl
  ·have hm := Lib.hid hm'
   have hn : Hid (numD a.n = true) := Lib.hid hm'
   clear hm'
   obtain ⟨z, hz'⟩ := bool_letter (sameD a ⟨a.kind, a.n, ⟨#[]⟩, noB, noR, 0⟩)
   have hz := Lib.hid hz'
   clear hz'
   refine wN [(0, 1), (1, 1), (2, 3), (3, 1), (4, 1), (5, 1), (6, 3), (7, 1), (8, 1)] (wT [0] ?_)
   refine wM 1 (.int .i64 (a).n) (HM14.out.part1 1 rfl rfl) Tryz.underlying3 ?_
   refine wpS_does2 (i := 2) (d := some 16) (rem := [_, _, _]) (out := [_, _, _]) rfl (by rfl) rfl Tryz.call152 (lupto_d a.n 1000000) rfl rfl HM14.out [] rfl covS_nil rfl rfl ?_
   rintro W19 hm18 -
   rw [hm.out]
   have HM20 := Lib.hid hm18
   clear hm18
   simp only [Act.put, List.setIfInBounds_toArray, List.set_cons_succ, List.set_cons_zero]
   refine wT [3] ?_
   refine wL 4 (ddC (a) (.slice pva a.b.v.length cva) (.slice pra a.r.p.2.2.length cra)) (HM20.out.part 1 rfl (ddC_all)) Tryz.underlying96 ?_
   refine wL 5 (ddC (⟨a.kind, a.n, ⟨#[]⟩, noB, noR, 0⟩) (.slice none 0 0) (.slice none 0 0)) (HM20.out.part 0 rfl (ddC_all)) Tryz.underlying96 ?_
   refine wpS_does2 (i := 6) (d := some 20) (rem := [_, _]) (out := [_, _, _]) rfl (by rfl) rfl Tryz.call153 (lsame_d R _ _ a ha _ _ ⟨a.kind, a.n, ⟨#[]⟩, noB, noR, 0⟩ ⟨vNil R, Nat.zero_le _, srcNil R, Nat.zero_le _⟩) rfl rfl HM20.out [2] rfl covS_nil rfl rfl ?_
   rintro W22 hm21 -
   rw [hz.out]
   have HM23 := Lib.hid hm21
   clear hm21
   simp only [Act.put, List.setIfInBounds_toArray, List.set_cons_succ, List.set_cons_zero]
   refine wT [7, 8] ?_
   refine wZ (wp_ret ?_)
   refine block_ret (then_ret ?_)
   refine bodyPost_ret (results_tmp rfl _ _ _) rfl ?_
   rw [hc.out, hn.out, hz.out]
   exact does_ret (Mem.only (M := [_]) HM23.out [0] rfl) rfl rfl
 ·have hc := Lib.hid ((may_2 hk).trans (by rw [← bare_2]))
  have k1 : (a.kind == 1) = false := beq_eq_false_iff_ne.2 (by omega)
  have k2 : (a.kind == 2) = true := beq_iff_eq.2 hk
  replace hk := Lib.hid hk
  refine wQ ?_
  refine wp_cond_false rfl (wp_seq (wQ ?_))
  refine wp_cond_true rfl (wp_seq (wN [(0, 1), (1, 1), (2, 1), (3, 3)] (wT [0] ?_)))
  refine wL 1 (rgC (a).r (.slice pra a.r.p.2.2.length cra)) (HM11.out.part 1 rfl (ddC_ring)) Tryz.underlying49 ?_
  refine wT [2] ?_
  refine wpS_storeA (i := 3) (L2 := [_, _]) (cs' := ddC (⟨a.kind, 0, ⟨#[]⟩, noB, a.r, 0⟩) (.slice none 0 0) (.slice pra a.r.p.2.2.length cra)) rfl (by rfl) rfl rfl rfl (by kernel_rfl) (by rfl) HM11.out 0 rfl rfl (by kernel_rfl) (ddC_setRing _ _) covS_nil rfl ?_
  rintro W25 hm24 -
  have HM26 := Lib.hid hm24
  clear hm24
  refine wZ (wp_seq ?_)
  cases hm' : mayR a.r
  ·have hm := Lib.hid hm'
   clear hm'
   refine wN [(0, 1), (1, 1), (2, 3), (3, 1), (4, 1), (5, 1), (6, 3), (7, 1), (8, 1)] (wT [0] ?_)
   refine wL 1 (rgC (a).r (.slice pra a.r.p.2.2.length cra)) (HM26.out.part 1 rfl (ddC_ring)) Tryz.underlying49 ?_
   refine wpS_does1 (i := 2) (d := some 29) (rem := [_, _]) (out := [_, _, _]) rfl (by rfl) rfl Tryz.call154 (gmay_d R _ a.r ha.r ha.lr) rfl HM26.out [2] rfl covS_nil rfl rfl ?_
   rintro W28 hm27 -
   rw [hm.out]
   have HM29 := Lib.hid hm27
   clear hm27
   simp only [Act.put, List.setIfInBounds_toArray, List.set_cons_succ, List.set_cons_zero]
   refine wT [3] ?_
   refine wK 4 ?_
   refine wK 5 ?_
   refine wK 6 ?_
   refine wT [7, 8] ?_
   refine wZ (wp_ret ?_)
   refine block_ret (then_ret ?_)
   refine bodyPost_ret (results_tmp rfl _ _ _) rfl ?_
   rw [hc.out, hm.out]
   exact does_ret (Mem.only (M := [_]) HM29.out [0] rfl) rfl rfl
  ·have hm := Lib.hid hm'
   clear hm'
   obtain ⟨z, hz'⟩ := bool_letter (sameD a ⟨a.kind, 0, ⟨#[]⟩, noB, a.r, 0⟩)
   have hz := Lib.hid hz'
   clear hz'
   refine wN [(0, 1), (1, 1), (2, 3), (3, 1), (4, 1), (5, 1), (6, 3), (7, 1), (8, 1)] (wT [0] ?_)
   refine wL 1 (rgC (a).r (.slice pra a.r.p.2.2.length cra)) (HM26.out.part 1 rfl (ddC_ring)) Tryz.underlying49 ?_
   refine wpS_does1 (i := 2) (d := some 29) (rem := [_, _]) (out := [_, _, _]) rfl (by rfl) rfl Tryz.call154 (gmay_d R _ a.r ha.r ha.lr) rfl HM26.out [2] rfl covS_nil rfl rfl ?_
   rintro W31 hm30 -
   rw [hm.out]
   have HM32 := Lib.hid hm30
   clear hm30
   simp only [Act.put, List.setIfInBounds_toArray, List.set_cons_succ, List.set_cons_zero]
   refine wT [3] ?_
   refine wL 4 (ddC (a) (.slice pva a.b.v.length cva) (.slice pra a.r.p.2.2.length cra)) (HM32.out.part 2 rfl (ddC_all)) Tryz.underlying96 ?_
   refine wL 5 (ddC (⟨a.kind, 0, ⟨#[]⟩, noB, a.r, 0⟩) (.slice none 0 0) (.slice pra a.r.p.2.2.length cra)) (HM32.out.part 1 rfl (ddC_all)) Tryz.underlying96 ?_
   refine wpS_does2 (i := 6) (d := some 33) (rem := [_, _]) (out := [_, _, _]) rfl (by rfl) rfl Tryz.call153 (lsame_d R _ _ a ha _ _ ⟨a.kind, 0, ⟨#[]⟩, noB, a.r, 0⟩ ⟨vNil R, Nat.zero_le _, ha.r, ha.lr⟩) rfl rfl HM32.out [0] rfl covS_nil rfl rfl ?_
   rintro W34 hm33 -
   rw [hz.out]
   have HM35 := Lib.hid hm33
   clear hm33
   simp only [Act.put, List.setIfInBounds_toArray, List.set_cons_succ, List.set_cons_zero]
   refine wT [7, 8] ?_
   refine wZ (wp_ret ?_)
   refine block_ret (then_ret ?_)
   refine bodyPost_ret (results_tmp rfl _ _ _) rfl ?_
   rw [hc.out, hm.out, hz.out]
   exact does_ret (Mem.only (M := [_]) HM35.out [0] rfl) rfl rfl
 ·have hc := Lib.hid ((may_3 hk).trans (by rw [← bare_3]))
  have k1 : (a.kind == 1) = false := beq_eq_false_iff_ne.2 (by omega)
  have k2 : (a.kind == 2) = false := beq_eq_false_iff_ne.2 (by omega)
  have k3 : (a.kind == 3) = true := beq_iff_eq.2 hk
  replace hk := Lib.hid hk
  refine wQ ?_
  refine wp_cond_false rfl (wp_seq (wQ ?_))
  refine wp_cond_false rfl (wp_seq (wQ ?_))
  refine wp_cond_true rfl (wp_seq ?_)
  refine wp_region_M (fun k => k ∈ ([b3] : List Nat)) [(0, 1), (1, 1), (2, 0), (3, 2), (4, 0), (5, 2), (6, 1), (7, 3), (8, 1), (9, 3), (10, 1), (11, 3)] (by kernel_rfl) (by kernel_rfl) HM11.out ?_
  intro W36 hm37
  have HM38 := Lib.hid hm37
  clear hm37
  refine wT [0] ?_
  refine wM 1 (.string (a).key) (HM38.out.part1 1 rfl rfl) Tryz.underlying9 ?_
  refine wA [2] ?_
  refine wL2 3 (bgC (a).b.k (.slice pva a.b.v.length cva)) (HM38.out.part 1 rfl (ddC_bag)) Tryz.underlying41 ?_
  refine wA [4] ?_
  refine wM2 5 (.int .i64 (a).n) (HM38.out.part1 1 rfl rfl) Tryz.underlying3 ?_
  refine wT [6] ?_
  refine wpS_store1 (i := 7) (v := _) (L2 := [_, _]) (cs' := ddC (⟨a.kind, 0, a.key, noB, noR, 0⟩) (.slice none 0 0) (.slice none 0 0)) rfl (by rfl) rfl rfl rfl rfl (by kernel_rfl) rfl HM38.out 0 rfl rfl (by kernel_rfl) (ddC_setKey _) (covS_box 0 rfl covS_nil) rfl ?_
  rintro W40 hm39 hg41
  have HM42 := Lib.hid hm39
  clear hm39
  refine wT [8] ?_
  refine wpS_storeA (i := 9) (L2 := [_, _]) (cs' := ddC (⟨a.kind, 0, a.key, a.b, noR, 0⟩) (.slice pva a.b.v.length cva) (.slice none 0 0)) rfl (by rfl) rfl rfl rfl (by kernel_rfl) (by rfl) HM42.out 0 rfl rfl (by kernel_rfl) (ddC_setBag _ _) (covS_box 0 rfl covS_nil) rfl ?_
  rintro W44 hm43 hg45
  have HM46 := Lib.hid hm43
  clear hm43
  refine wT [10] ?_
  refine wpS_store1 (i := 11) (v := _) (L2 := [_, _]) (cs' := ddC (⟨a.kind, a.n, a.key, a.b, noR, 0⟩) (.slice pva a.b.v.length cva) (.slice none 0 0)) rfl (by rfl) rfl rfl rfl rfl (by kernel_rfl) rfl HM46.out 0 rfl rfl (by kernel_rfl) (ddC_setN _) (covS_box 0 rfl covS_nil) rfl ?_
  rintro W48 hm47 hg49
  have HM50 := Lib.hid hm47
  clear hm47
  refine wZ (wp_seq ?_)
  rcases (show keyB a.key = false ∨ (keyB a.key = true ∧ mayB a.b = false) ∨ (keyB a.key = true ∧ mayB a.b = true ∧ decide (0 ≤ a.n ∧ a.n ≤ 1000000) = false) ∨ (keyB a.key = true ∧ mayB a.b = true ∧ decide (0 ≤ a.n ∧ a.n ≤ 1000000) = true) from by cases keyB a.key <;> cases mayB a.b <;> cases decide (0 ≤ a.n ∧ a.n ≤ 1000000) <;> simp) with hm' | ⟨hm', hb'⟩ | ⟨hm', hb', hn'⟩ | ⟨hm', hb', hn'⟩
  ·have hm := Lib.hid hm'
   clear hm'
   refine wN [(0, 1), (1, 1), (2, 3), (3, 1), (4, 1), (5, 1), (6, 3), (7, 1), (8, 1), (9, 1), (10, 1), (11, 3), (12, 1), (13, 1), (14, 1), (15, 1), (16, 3), (17, 1), (18, 1)] (wT [0] ?_)
   refine wM 1 (.string (a).key) (HM50.out.part1 1 rfl rfl) Tryz.underlying9 ?_
   refine wpS_does1 (i := 2) (d := some 48) (rem := [_, _, _]) (out := [_, _, _]) rfl (by rfl) rfl Tryz.call155 (lkey_d a.key) rfl HM50.out [] rfl covS_nil rfl rfl ?_
   rintro W52 hm51 -
   rw [hm.out]
   have HM53 := Lib.hid hm51
   clear hm51
   simp only [Act.put, List.setIfInBounds_toArray, List.set_cons_succ, List.set_cons_zero]
   refine wT [3, 4] ?_
   refine wK 5 ?_
   refine wK 6 ?_
   refine wT [7, 8, 9] ?_
   refine wK 10 ?_
   refine wK 11 ?_
   refine wT [12, 13] ?_
   refine wK 14 ?_
   refine wK 15 ?_
   refine wK 16 ?_
   refine wT [17, 18] ?_
   refine wZ (wp_ret ?_)
   refine block_ret (then_ret ?_)
   refine bodyPost_ret (results_tmp rfl _ _ _) rfl ?_
   rw [hc.out, hm.out]
   exact does_ret (Mem.only (M := [_]) HM53.out [2] rfl) rfl rfl
  ·have hm := Lib.hid hm'
   clear hm'
   have hb := Lib.hid hb'
   clear hb'
   refine wN [(0, 1), (1, 1), (2, 3), (3, 1), (4, 1), (5, 1), (6, 3), (7, 1), (8, 1), (9, 1), (10, 1), (11, 3), (12, 1), (13, 1), (14, 1), (15, 1), (16, 3), (17, 1), (18, 1)] (wT [0] ?_)
   refine wM 1 (.string (a).key) (HM50.out.part1 1 rfl rfl) Tryz.underlying9 ?_
   refine wpS_does1 (i := 2) (d := some 48) (rem := [_, _, _]) (out := [_, _, _]) rfl (by rfl) rfl Tryz.call155 (lkey_d a.key) rfl HM50.out [] rfl covS_nil rfl rfl ?_
   rintro W55 hm54 -
   rw [hm.out]
   have HM56 := Lib.hid hm54
   clear hm54
   simp only [Act.put, List.setIfInBounds_toArray, List.set_cons_succ, List.set_cons_zero]
   refine wT [3, 4] ?_
   refine wL 5 (bgC (a).b.k (.slice pva a.b.v.length cva)) (HM56.out.part 1 rfl (ddC_bag)) Tryz.underlying41 ?_
   refine wpS_does1 (i := 6) (d := some 52) (rem := [_, _]) (out := [_, _, _]) rfl (by rfl) rfl Tryz.call72 (bmay_d R _ a.b ha.v ha.lv) rfl HM56.out [2] rfl covS_nil rfl rfl ?_
   rintro W58 hm57 -
   rw [hb.out]
   have HM59 := Lib.hid hm57
   clear hm57
   simp only [Act.put, List.setIfInBounds_toArray, List.set_cons_succ, List.set_cons_zero]
   refine wT [7, 8, 9] ?_
   refine wK 10 ?_
   refine wK 11 ?_
   refine wT [12, 13] ?_
   refine wK 14 ?_
   refine wK 15 ?_
   refine wK 16 ?_
   refine wT [17, 18] ?_
   refine wZ (wp_ret ?_)
   refine block_ret (then_ret ?_)
   refine bodyPost_ret (results_tmp rfl _ _ _) rfl ?_
   rw [hc.out, hm.out, hb.out]
   exact does_ret (Mem.only (M := [_]) HM59.out [0] rfl) rfl rfl
  ·have hm := Lib.hid hm'
   clear hm'
   have hb := Lib.hid hb'
   clear hb'
   have hn := Lib.hid hn'
   have hn2 : Hid (numD a.n = false) := Lib.hid hn'
   clear hn'
   refine wN [(0, 1), (1, 1), (2, 3), (3, 1), (4, 1), (5, 1), (6, 3), (7, 1), (8, 1), (9, 1), (10, 1), (11, 3), (12, 1), (13, 1), (14, 1), (15, 1), (16, 3), (17, 1), (18, 1)] (wT [0] ?_)
   refine wM 1 (.string (a).key) (HM50.out.part1 1 rfl rfl) Tryz.underlying9 ?_
   refine wpS_does1 (i := 2) (d := some 48) (rem := [_, _, _]) (out := [_, _, _]) rfl (by rfl) rfl Tryz.call155 (lkey_d a.key) rfl HM50.out [] rfl covS_nil rfl rfl ?_
   rintro W61 hm60 -
   rw [hm.out]
   have HM62 := Lib.hid hm60
   clear hm60
   simp only [Act.put, List.setIfInBounds_toArray, List.set_cons_succ, List.set_cons_zero]
   refine wT [3, 4] ?_
   refine wL 5 (bgC (a).b.k (.slice pva a.b.v.length cva)) (HM62.out.part 1 rfl (ddC_bag)) Tryz.underlying41 ?_
   refine wpS_does1 (i := 6) (d := some 52) (rem := [_, _]) (out := [_, _, _]) rfl (by rfl) rfl Tryz.call72 (bmay_d R _ a.b ha.v ha.lv) rfl HM62.out [2] rfl covS_nil rfl rfl ?_
   rintro W64 hm63 -
   rw [hb.out]
   have HM65 := Lib.hid hm63
   clear hm63
   simp only [Act.put, List.setIfInBounds_toArray, List.set_cons_succ, List.set_cons_zero]
   refine wT [7, 8, 9] ?_
   refine wM 10 (.int .i64 (a).n) (HM65.out.part1 2 rfl rfl) Tryz.underlying3 ?_
   refine wpS_does2 (i := 11) (d := some 57) (rem := [_, _, _]) (out := [_, _, _]) rfl (by rfl) rfl Tryz.call152 (lupto_d a.n 1000000) rfl rfl HM65.out [] rfl covS_nil rfl rfl ?_
   rintro W67 hm66 -
   rw [hn.out]
   have HM68 := Lib.hid hm66
   clear hm66
   simp only [Act.put, List.setIfInBounds_toArray, List.set_cons_succ, List.set_cons_zero]
   refine wT [12, 13] ?_
   refine wK 14 ?_
   refine wK 15 ?_
   refine wK 16 ?_
   refine wT [17, 18] ?_
   refine wZ (wp_ret ?_)
   refine block_ret (then_ret ?_)
   refine bodyPost_ret (results_tmp rfl _ _ _) rfl ?_
   rw [hc.out, hm.out, hb.out, hn2.out]
   exact does_ret (Mem.only (M := [_]) HM68.out [0] rfl) rfl rfl
  ·have hm := Lib.hid hm'
   clear hm'
   have hb := Lib.hid hb'
   clear hb'
   have hn := Lib.hid hn'
   have hn2 : Hid (numD a.n = true) := Lib.hid hn'
   clear hn'
   obtain ⟨z, hz'⟩ := bool_letter (sameD a ⟨a.kind, a.n, a.key, a.b, noR, 0⟩)
   have hz := Lib.hid hz'
   clear hz'
   refine wN [(0, 1), (1, 1), (2, 3), (3, 1), (4, 1), (5, 1), (6, 3), (7, 1), (8, 1), (9, 1), (10, 1), (11, 3), (12, 1), (13, 1), (14, 1), (15, 1), (16, 3), (17, 1), (18, 1)] (wT [0] ?_)
   refine wM 1 (.string (a).key) (HM50.out.part1 1 rfl rfl) Tryz.underlying9 ?_
   refine wpS_does1 (i := 2) (d := some 48) (rem := [_, _, _]) (out := [_, _, _]) rfl (by rfl) rfl Tryz.call155 (lkey_d a.key) rfl HM50.out [] rfl covS_nil rfl rfl ?_
   rintro W70 hm69 -
   rw [hm.out]
   have HM71 := Lib.hid hm69
   clear hm69
   simp only [Act.put, List.setIfInBounds_toArray, List.set_cons_succ, List.set_cons_zero]
   refine wT [3, 4] ?_
   refine wL 5 (bgC (a).b.k (.slice pva a.b.v.length cva)) (HM71.out.part 1 rfl (ddC_bag)) Tryz.underlying41 ?_
   refine wpS_does1 (i := 6) (d := some 52) (rem := [_, _]) (out := [_, _, _]) rfl (by rfl) rfl Tryz.call72 (bmay_d R _ a.b ha.v ha.lv) rfl HM71.out [2] rfl covS_nil rfl rfl ?_
   rintro W73 hm72 -
   rw [hb.out]
   have HM74 := Lib.hid hm72
   clear hm72
   simp only [Act.put, List.setIfInBounds_toArray, List.set_cons_succ, List.set_cons_zero]
   refine wT [7, 8, 9] ?_
   refine wM 10 (.int .i64 (a).n) (HM74.out.part1 2 rfl rfl) Tryz.underlying3 ?_
   refine wpS_does2 (i := 11) (d := some 57) (rem := [_, _, _]) (out := [_, _, _]) rfl (by rfl) rfl Tryz.call152 (lupto_d a.n 1000000) rfl rfl HM74.out [] rfl covS_nil rfl rfl ?_
   rintro W76 hm75 -
   rw [hn.out]
   have HM77 := Lib.hid hm75
   clear hm75
   simp only [Act.put, List.setIfInBounds_toArray, List.set_cons_succ, List.set_cons_zero]
   refine wT [12, 13] ?_
   refine wL 14 (ddC (a) (.slice pva a.b.v.length cva) (.slice pra a.r.p.2.2.length cra)) (HM77.out.part 2 rfl (ddC_all)) Tryz.underlying96 ?_
   refine wL 15 (ddC (⟨a.kind, a.n, a.key, a.b, noR, 0⟩) (.slice pva a.b.v.length cva) (.slice none 0 0)) (HM77.out.part 1 rfl (ddC_all)) Tryz.underlying96 ?_
   refine wpS_does2 (i := 16) (d := some 62) (rem := [_, _]) (out := [_, _, _]) rfl (by rfl) rfl Tryz.call153 (lsame_d R _ _ a ha _ _ ⟨a.kind, a.n, a.key, a.b, noR, 0⟩ ⟨ha.v, ha.lv, srcNil R, Nat.zero_le _⟩) rfl rfl HM77.out [0] rfl covS_nil rfl rfl ?_
   rintro W79 hm78 -
   rw [hz.out]
   have HM80 := Lib.hid hm78
   clear hm78
   simp only [Act.put, List.setIfInBounds_toArray, List.set_cons_succ, List.set_cons_zero]
   refine wT [17, 18] ?_
   refine wZ (wp_ret ?_)
   refine block_ret (then_ret ?_)
   refine bodyPost_ret (results_tmp rfl _ _ _) rfl ?_
   rw [hc.out, hm.out, hb.out, hn2.out, hz.out]
   exact does_ret (Mem.only (M := [_]) HM80.out [0] rfl) rfl rfl
 ·have hc := Lib.hid ((may_4 hk).trans (by rw [← bare_4]))
  have k1 : (a.kind == 1) = false := beq_eq_false_iff_ne.2 (by omega)
  have k2 : (a.kind == 2) = false := beq_eq_false_iff_ne.2 (by omega)
  have k3 : (a.kind == 3) = false := beq_eq_false_iff_ne.2 (by omega)
  have k4 : (a.kind == 4) = true := beq_iff_eq.2 hk
  replace hk := Lib.hid hk
  refine wQ ?_
  refine wp_cond_false rfl (wp_seq (wQ ?_))
  refine wp_cond_false rfl (wp_seq (wQ ?_))
  refine wp_cond_false rfl (wp_seq (wQ ?_))
  refine wp_cond_true rfl (wp_seq (wN [(0, 1), (1, 1), (2, 1), (3, 3)] (wT [0] ?_)))
  refine wM 1 (.int .i64 (a).part) (HM11.out.part1 1 rfl ddC_part) Tryz.underlying3 ?_
  refine wT [2] ?_
  refine wpS_store1 (i := 3) (v := _) (L2 := [_, _]) (cs' := ddC (⟨a.kind, 0, ⟨#[]⟩, noB, noR, a.part⟩) (.slice none 0 0) (.slice none 0 0)) rfl (by rfl) rfl rfl rfl rfl (by kernel_rfl) rfl HM11.out 0 rfl rfl (by kernel_rfl) (ddC_setPart _) covS_nil rfl ?_
  rintro W82 hm81 -
  have HM83 := Lib.hid hm81
  clear hm81
  refine wZ (wp_seq ?_)
  cases hm' : decide (0 ≤ a.part ∧ a.part < 16)
  ·have hm := Lib.hid hm'
   clear hm'
   refine wN [(0, 1), (1, 1), (2, 3), (3, 1), (4, 1), (5, 1), (6, 3), (7, 1), (8, 1)] (wT [0] ?_)
   refine wM 1 (.int .i64 (a).part) (HM83.out.part1 1 rfl ddC_part) Tryz.underlying3 ?_
   refine wpS_does1 (i := 2) (d := some 71) (rem := [_, _, _]) (out := [_, _, _]) rfl (by rfl) rfl Tryz.call156 (lpart_d a.part) rfl HM83.out [] rfl covS_nil rfl rfl ?_
   rintro W85 hm84 -
   rw [hm.out]
   have HM86 := Lib.hid hm84
   clear hm84
   simp only [Act.put, List.setIfInBounds_toArray, List.set_cons_succ, List.set_cons_zero]
   refine wT [3] ?_
   refine wK 4 ?_
   refine wK 5 ?_
   refine wK 6 ?_
   refine wT [7, 8] ?_
   refine wZ (wp_ret ?_)
   refine block_ret (then_ret ?_)
   refine bodyPost_ret (results_tmp rfl _ _ _) rfl ?_
   rw [hc.out, hm.out]
   exact does_ret (Mem.only (M := [_]) HM86.out [2] rfl) rfl rfl
  ·have hm := Lib.hid hm'
   clear hm'
   obtain ⟨z, hz'⟩ := bool_letter (sameD a ⟨a.kind, 0, ⟨#[]⟩, noB, noR, a.part⟩)
   have hz := Lib.hid hz'
   clear hz'
   refine wN [(0, 1), (1, 1), (2, 3), (3, 1), (4, 1), (5, 1), (6, 3), (7, 1), (8, 1)] (wT [0] ?_)
   refine wM 1 (.int .i64 (a).part) (HM83.out.part1 1 rfl ddC_part) Tryz.underlying3 ?_
   refine wpS_does1 (i := 2) (d := some 71) (rem := [_, _, _]) (out := [_, _, _]) rfl (by rfl) rfl Tryz.call156 (lpart_d a.part) rfl HM83.out [] rfl covS_nil rfl rfl ?_
   rintro W88 hm87 -
   rw [hm.out]
   have HM89 := Lib.hid hm87
   clear hm87
   simp only [Act.put, List.setIfInBounds_toArray, List.set_cons_succ, List.set_cons_zero]
   refine wT [3] ?_
   refine wL 4 (ddC (a) (.slice pva a.b.v.length cva) (.slice pra a.r.p.2.2.length cra)) (HM89.out.part 1 rfl (ddC_all)) Tryz.underlying96 ?_
   refine wL 5 (ddC (⟨a.kind, 0, ⟨#[]⟩, noB, noR, a.part⟩) (.slice none 0 0) (.slice none 0 0)) (HM89.out.part 0 rfl (ddC_all)) Tryz.underlying96 ?_
   refine wpS_does2 (i := 6) (d := some 75) (rem := [_, _]) (out := [_, _, _]) rfl (by rfl) rfl Tryz.call153 (lsame_d R _ _ a ha _ _ ⟨a.kind, 0, ⟨#[]⟩, noB, noR, a.part⟩ ⟨vNil R, Nat.zero_le _, srcNil R, Nat.zero_le _⟩) rfl rfl HM89.out [2] rfl covS_nil rfl rfl ?_
   rintro W91 hm90 -
   rw [hz.out]
   have HM92 := Lib.hid hm90
   clear hm90
   simp only [Act.put, List.setIfInBounds_toArray, List.set_cons_succ, List.set_cons_zero]
   refine wT [7, 8] ?_
   refine wZ (wp_ret ?_)
   refine block_ret (then_ret ?_)
   refine bodyPost_ret (results_tmp rfl _ _ _) rfl ?_
   rw [hc.out, hm.out, hz.out]
   exact does_ret (Mem.only (M := [_]) HM92.out [0] rfl) rfl rfl
 ·have hc := Lib.hid (may_no hk)
  have k1 : (a.kind == 1) = false := beq_eq_false_iff_ne.2 (by omega)
  have k2 : (a.kind == 2) = false := beq_eq_false_iff_ne.2 (by omega)
  have k3 : (a.kind == 3) = false := beq_eq_false_iff_ne.2 (by omega)
  have k4 : (a.kind == 4) = false := beq_eq_false_iff_ne.2 (by omega)
  replace hk := Lib.hid hk
  refine wQ ?_
  refine wp_cond_false rfl (wp_seq (wQ ?_))
  refine wp_cond_false rfl (wp_seq (wQ ?_))
  refine wp_cond_false rfl (wp_seq (wQ ?_))
  refine wp_cond_false rfl (wp_skip (block_normal (then_normal (wp_seq (wQ ?_)))))
  refine wp_ret (bodyPost_ret (results_tmp rfl _ _ _) rfl ?_)
  rw [hc.out]
  exact does_ret (Mem.only (M := [_]) HM11.out [2] rfl) rfl rfl
set_option maxRecDepth 100000 in
theorem run_eqnilV {a : Act} {o : Oper} {x y : Operand} {p : Option Addr} {n c : Nat} {W : World} {tt : TypeId} (ho : o.op = .binOp .eql 39 x y tt) (hx : a.eval x = .slice p n c) (hy : a.eval y = .slice none 0 0) : (execOp a.eval o).run Tryz.prog W = .ok (.value (.bool p.isNone)) W := by
 have he := Go.Lib.run_eql_slice_nil (P := Tryz.prog) W 39 140 p n c 0 0 Tryz.underlying39
 have hg : (eqGuard .eql 39 x y (.slice p n c) (.slice none 0 0)).run Tryz.prog W = .ok () W := by
  unfold eqGuard
  simp [go_sem]
 unfold execOp
 simp only [ho, hx, hy, Sem.run_bind, hg, he, Result.andThen_ok, Sem.run_pure]
set_option maxHeartbeats 4000000 in
set_option maxRecDepth 100000 in
theorem vclone_d (R : At) (va : Value) (l : List Vl) (ha : Reads elemV R va l) (la : l.length ≤ 4398046510976) : DoesU Tryz.prog 77 #[va] [R] (fun u => [rowT elemV u l, R]) := by
 intro w H hp
 have HM0 := Lib.hid (mem_refl hp)
 clear hp
 obtain ⟨pa, ca, rfl⟩ := row_form (Mem.src HM0.out 0 rfl ha)
 go_enter Tryz.func77, Tryz.ntmps77
 refine wp_seq (wQ ?_)
 refine wp_seq (wp_seq ?_)
 rcases pa with _ | pq
 ·have hnil : l = [] := src_nil (Mem.src HM0.out 0 rfl ha)
  subst hnil
  refine wN [(0, 1), (1, 1)] (wT [0] ?_)
  refine wR 1 (run_eqnilV rfl rfl rfl) ?_
  refine wZ (wp_cond_true rfl (wp_seq (wQ ?_)))
  refine wp_ret (then_ret (bodyPost_ret (results_tmp rfl _ _ _) rfl ?_))
  exact doesU_ret (post := fun u => [rowT elemV u [], R]) (Mem.nilRow elemV (Mem.only (M := [_]) HM0.out [0] rfl)) rfl
 ·skip
  refine wN [(0, 1), (1, 1)] (wT [0] ?_)
  refine wR 1 (run_eqnilV rfl rfl rfl) ?_
  refine wZ (wp_cond_false rfl (wp_skip (then_normal (wp_seq (wN [(0, 3), (1, 1), (2, 3), (3, 1)] ?_)))))
  refine wpS_buildN elemV (i := 0) (dd := 5) (n := 0) (xs := []) (cs := #[]) rfl (by rfl) (fun _ => by kernel_rfl) rfl rfl HM0.out covS_nil rfl ?_
  rintro b3 W4 hm5 -
  have HM6 := Lib.hid hm5
  clear hm5
  simp only [Act.put, List.setIfInBounds_toArray, List.set_cons_succ, List.set_cons_zero]
  refine wT [1] ?_
  refine wpS_append (E := elemV) (i := 2) (d := some 7) (L2 := [_]) rfl (by rfl) rfl HM6.out 0 rfl rfl (HM6.out.src 1 rfl ha) rfl (by rw [List.length_nil]; show _ * 32 ≤ _; omega) rfl covS_nil rfl ?_
  rintro v9 W10 hm11 -
  rw [List.nil_append] at hm11
  obtain ⟨vp, vc, rfl⟩ := row_form (Mem.src hm11 0 rfl rowT_reads)
  have HM12 := Lib.hid hm11
  clear hm11
  simp only [Act.put, List.setIfInBounds_toArray, List.set_cons_succ, List.set_cons_zero]
  refine wT [3] ?_
  refine wZ (wp_ret (bodyPost_ret (results_tmp rfl _ _ _) rfl ?_))
  exact doesU_ret (post := fun u => [rowT elemV u l, R]) (Mem.only (M := [_, _]) HM12.out [0, 0] rfl) rfl
def cpT (u : Value) (d : Dd) : At := exT fun x : Dx => [prT (x.d = d ∧ u = .agg x.enc.toArray), rowT elemV (.slice x.vp x.vn x.vc) x.d.b.v, rowT elemI (.slice x.rp x.rn x.rc) x.d.r.p.2.2]
section
variable {L : List At} {H0 : Nat → Prop} {w W : World}
theorem Mem.cp {u : Value} {d : Dd} (h : Mem (cpT u d :: L) H0 w W) : ∃ x : Dx, x.d = d ∧ u = .agg x.enc.toArray ∧ Mem (rowT elemV (.slice x.vp x.vn x.vc) x.d.b.v :: rowT elemI (.slice x.rp x.rn x.rc) x.d.r.p.2.2 :: L) H0 w W := by
 obtain ⟨x, h⟩ := Mem.ex h
 obtain ⟨hu, h⟩ := Mem.pr h
 exact ⟨x, hu.1, hu.2, h⟩
theorem Mem.toCp {d : Dd} {vp rp : Option Addr} {vn vc rn rc : Nat} (h : Mem (rowT elemV (.slice vp vn vc) d.b.v :: rowT elemI (.slice rp rn rc) d.r.p.2.2 :: L) H0 w W) : Mem (cpT (ddV d (.slice vp vn vc) (.slice rp rn rc)) d :: L) H0 w W := Mem.addEx (⟨d, vp, vn, vc, rp, rn, rc⟩ : Dx) (Mem.addPr ⟨rfl, rfl⟩ h)
theorem Mem.ownAdd {ys : List Dx} {y : Dx} (h : Mem (rowT elemV (.slice y.vp y.vn y.vc) y.d.b.v :: rowT elemI (.slice y.rp y.rn y.rc) y.d.r.p.2.2 :: ownX ys :: L) H0 w W) : Mem (ownX (ys ++ [y]) :: L) H0 w W := SEnd.mono h fun _ h => star_mono (fun _ h => by
  show stars ((ys ++ [y]).flatMap rowsX) _ _
  rw [List.flatMap_append]
  exact stars_append (l := ys.flatMap rowsX) (m := [_, _]) (star_mono (fun _ h => h) (fun _ h => star_mono (fun _ h => h) (fun _ h => star_comm (starl_emp h)) h) (star_comm (star_assoc' h)))) (fun _ h => h) (star_assoc' (star_mono (fun _ h => h) (fun _ h => star_assoc' h) h))
end
set_option maxHeartbeats 4000000 in
set_option maxRecDepth 100000 in
theorem copied_d (R : At) (va ra : Value) (a : Dd) (ha : DdR R a va ra) : DoesU Tryz.prog 79 #[ddV a va ra] [R] (fun u => [cpT u a, R]) := by
 intro w H hp
 have HM0 := Lib.hid (mem_refl hp)
 clear hp
 obtain ⟨pva, cva, rfl⟩ := row_form (Mem.src HM0.out 0 rfl ha.v)
 obtain ⟨pra, cra, rfl⟩ := row_form (Mem.src HM0.out 0 rfl ha.r)
 go_enter Tryz.func79, Tryz.ntmps79
 refine wp_seq (wN [(0, 3), (1, 3)] ?_)
 refine wBh 0 HM0 fun b3 W2 HM4 => ?_
 refine wpS_alloc (i := 1) (dd := 2) (z := ddV noD (.slice none 0 0) (.slice none 0 0)) (cs := (ddC noD (.slice none 0 0) (.slice none 0 0)).toArray) rfl (by rfl) rfl (by kernel_rfl) rfl HM4.out covS_nil rfl ?_
 rintro b7 W6 hm5 -
 have HM8 := Lib.hid hm5
 clear hm5
 simp only [Act.put, List.setIfInBounds_toArray, List.set_cons_succ, List.set_cons_zero]
 refine wZ (wp_seq (wN [(0, 1), (1, 1), (2, 1), (3, 3), (4, 1), (5, 1), (6, 3)] (wT [0, 1] ?_)))
 refine wM 2 (.slice pva a.b.v.length cva) (HM8.out.part1 1 rfl ddC_vals) Tryz.underlying39 ?_
 refine wpS_doesU1 (i := 3) (d := some 6) (rem := [_, _]) rfl (by rfl) rfl Tryz.call77 (vclone_d R _ a.b.v ha.v ha.lv) rfl HM8.out [2] rfl covS_nil (fun _ => rfl) rfl ?_
 rintro u11 W10 hm9 -
 obtain ⟨pw, cw, rfl⟩ := row_form (Mem.src hm9 0 rfl rowT_reads)
 have HM12 := Lib.hid hm9
 clear hm9
 simp only [Act.put, List.setIfInBounds_toArray, List.set_cons_succ, List.set_cons_zero]
 refine wT [4, 5] ?_
 refine wpS_store1 (i := 6) (v := _) (L2 := [_, _, _]) (cs' := ddC (a) (.slice pw a.b.v.length cw) (.slice pra a.r.p.2.2.length cra)) rfl (by rfl) rfl rfl rfl rfl (by kernel_rfl) rfl HM12.out 3 rfl rfl (by kernel_rfl) (ddC_setVals _) covS_nil rfl ?_
 rintro W14 hm13 -
 have HM15 := Lib.hid hm13
 clear hm13
 refine wZ (wp_seq (wN [(0, 1), (1, 1), (2, 1), (3, 1), (4, 3), (5, 1), (6, 1), (7, 1), (8, 3)] (wT [0, 1, 2] ?_)))
 refine wM 3 (.slice pra a.r.p.2.2.length cra) (HM15.out.part1 0 rfl ddC_tgts) Tryz.underlying42 ?_
 refine wpS_doesU1 (i := 4) (d := some 13) (rem := [_, _, _]) rfl (by rfl) rfl Tryz.call124 (clone_d R _ a.r.p.2.2 ha.r ha.lr) rfl HM15.out [2] rfl covS_nil (fun _ => rfl) rfl ?_
 rintro u18 W17 hm16 -
 obtain ⟨pt, ct, rfl⟩ := row_form (Mem.src hm16 0 rfl rowT_reads)
 have HM19 := Lib.hid hm16
 clear hm16
 simp only [Act.put, List.setIfInBounds_toArray, List.set_cons_succ, List.set_cons_zero]
 refine wT [5, 6, 7] ?_
 refine wpS_store1 (i := 8) (v := _) (L2 := [_, _, _, _]) (cs' := ddC (a) (.slice pw a.b.v.length cw) (.slice pt a.r.p.2.2.length ct)) rfl (by rfl) rfl rfl rfl rfl (by kernel_rfl) rfl HM19.out 2 rfl rfl (by kernel_rfl) (ddC_setTgts _) covS_nil rfl ?_
 rintro W21 hm20 -
 have HM22 := Lib.hid hm20
 clear hm20
 refine wZ (wp_seq (wN [(0, 1), (1, 3)] ?_))
 refine wL 0 (ddC (a) (.slice pw a.b.v.length cw) (.slice pt a.r.p.2.2.length ct)) (HM22.out.part 0 rfl (ddC_all)) Tryz.underlying96 ?_
 refine wpS_storeA (i := 1) (L2 := [_, _, _, _]) (cs' := ddC (a) (.slice pw a.b.v.length cw) (.slice pt a.r.p.2.2.length ct)) rfl (by rfl) rfl rfl rfl (by kernel_rfl) (ddC_one _ _ _ _ _ _) HM22.out 4 rfl rfl (by kernel_rfl) (by kernel_rfl) covS_nil rfl ?_
 rintro W24 hm23 -
 have HM25 := Lib.hid hm23
 clear hm23
 refine wZ (wp_ret ?_)
 refine ret_cell rfl HM25.out 0 rfl rfl Tryz.underlying96 rfl (by kernel_rfl) rfl ?_
 exact doesU_ret (post := fun u => [cpT u a, R]) (Mem.toCp (Mem.only (M := [_, _, _]) HM25.out [4, 2, 2] rfl)) rfl
end
end Go.Proofs.YtcchkkdbagpgjaaGreat
