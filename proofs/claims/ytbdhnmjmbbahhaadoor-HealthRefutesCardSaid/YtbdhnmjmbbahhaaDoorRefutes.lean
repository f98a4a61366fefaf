/- HealthRefutes's walk: who refutes is louder than what was said. -/
import Derived.Test.YtbdhnmjmbbahhaaDoorForms
import Derived.Test.YtbdhnmjmbbahhaaDoorMath
namespace Go.Proofs.YtbdhnmjmbbahhaaDoor
open Go Go.RowKit


set_option maxHeartbeats 4000000 in
set_option maxRecDepth 100000 in
theorem refutes_bad0 (self inc n i h : Int) (p : ¬ (0 ≤ self ∧ self < 8)) (w : World) (ht : Tab w) : Gives Tryd.prog 5 #[.int .i64 self, .int .i64 inc, .agg #[.int .i64 n, .int .i64 i, .int .i64 h]] w (.bool true) := by
  unfold Gives
  have HT := Lib.hid ht
  have HR : Hid (∀ w, Gives Tryd.prog 9 #[.int .i64 self, .int .i64 inc, .agg #[.int .i64 n, .int .i64 i, .int .i64 h]] w (.tuple #[.int .i64 0, .int .i64 1])) := Lib.hid (fun w => (refute_any self inc n i h w).cast (by rw [(show refN self inc n i h = 0 by unfold refN; rw [if_pos (fun z => p z.1)]), (show refE self inc n i h = 1 by unfold refE; rw [if_pos (fun z => p z.1)])]))
  try (first | (have HN : Hid (∀ w, Gives Tryd.prog 19 #[.int .i64 self] w (.bool true)) := Lib.hid (fun w => (refNode_any self w).cast (by rw [show nodeB self = true from by simp only [nodeB, decide_eq_true_eq]; omega]))) | (have HN : Hid (∀ w, Gives Tryd.prog 19 #[.int .i64 self] w (.bool false)) := Lib.hid (fun w => (refNode_any self w).cast (by rw [show nodeB self = false from by simp only [nodeB, decide_eq_false_iff_not]; omega]))))
  try (first | (have HM : Hid (∀ w, Gives Tryd.prog 12 #[.agg #[.int .i64 n, .int .i64 i, .int .i64 h]] w (.bool true)) := Lib.hid (fun w => (may_any n i h w).cast (by rw [show mayB n i h = true from by simp only [mayB, decide_eq_true_eq]; omega]))) | (have HM : Hid (∀ w, Gives Tryd.prog 12 #[.agg #[.int .i64 n, .int .i64 i, .int .i64 h]] w (.bool false)) := Lib.hid (fun w => (may_any n i h w).cast (by rw [show mayB n i h = false from by simp only [mayB, decide_eq_false_iff_not]; omega]))))
  first | (have l3 : 0 ≤ inc := by omega) | (have l3 : inc < 0 := by omega) | skip
  first | (have l4 : inc ≤ 1000000 := by omega) | (have l4 : 1000000 < inc := by omega) | skip
  first | (have l5 : 0 ≤ i := by omega) | (have l5 : i < 0 := by omega) | skip
  first | (have l6 : i ≤ 1000000 := by omega) | (have l6 : 1000000 < i := by omega) | skip
  try (first | (have e1 : ((n : Int) != self) = true := by first | exact beq_iff_eq.2 (by omega) | (rw [bne_iff_ne]; omega)) | (have e1 : ((n : Int) != self) = false := by first | exact beq_eq_false_iff_ne.2 (by omega) | exact bne_eq_false_iff_eq.2 (by omega)))
  try (first | (have e2 : ((h : Int) == 4) = true := by first | exact beq_iff_eq.2 (by omega) | (rw [bne_iff_ne]; omega)) | (have e2 : ((h : Int) == 4) = false := by first | exact beq_eq_false_iff_ne.2 (by omega) | exact bne_eq_false_iff_eq.2 (by omega)))
  try (first | (have e3 : ((h : Int) == 1) = true := by first | exact beq_iff_eq.2 (by omega) | (rw [bne_iff_ne]; omega)) | (have e3 : ((h : Int) == 1) = false := by first | exact beq_eq_false_iff_ne.2 (by omega) | exact bne_eq_false_iff_eq.2 (by omega)))
  try (first | (have e4 : ((i : Int) == 1000000) = true := by first | exact beq_iff_eq.2 (by omega) | (rw [bne_iff_ne]; omega)) | (have e4 : ((i : Int) == 1000000) = false := by first | exact beq_eq_false_iff_ne.2 (by omega) | exact bne_eq_false_iff_eq.2 (by omega)))
  have HA : Hid (∀ w, Tab w → Gives Tryd.prog 18 #[] w (.bool true)) := Lib.hid awake_any
  clear p ht
  go_enter Tryd.func5, Tryd.ntmps5
  go_wp2_with fail
  refine Gives.cut (fun W1 => ClaimAt W1 w.heap.size n i h ∧ Below w.heap.size w W1) (HR.out _) ?hF ?_
  case hF =>
    intro x
    exact ⟨⟨by simp [go_sem], by simp [go_sem], by simp [go_sem], by simp [go_sem], by simp [go_sem], by simp [go_sem], by simp [go_sem]⟩, (by repeat (first | exact ext_refl _ | refine ext_alloc ?_ _ | refine ext_later ?_ _ | refine ext_drew ?_ | refine ext_drewN ?_ _ | refine ext_setCell ?_ _ _ (by first | assumption | (dsimp only; omega)) | assumption))⟩
  rintro W1 ⟨⟨a0, a1, a2, a3, _, _, _⟩, hb⟩
  have hne : w.heap.size ≠ W1.heap.size := by omega
  have hle : w.heap.size ≤ W1.heap.size := by omega
  go_wp2_with (first | (go_at_call 19; (first | (with_reducible refine Gives.on (HN.out _) ?_) | (with_reducible refine Gives.mono' (HN.out _) ?_)); intro x) | (go_at_call 12; (first | (with_reducible refine Gives.on (HM.out _) ?_) | (with_reducible refine Gives.mono' (HM.out _) ?_)); intro x) | (go_at_call 18; (first | (with_reducible refine Gives.on (HA.out _ (HT.out.later (by repeat (first | exact ext_refl _ | refine ext_alloc ?_ _ | refine ext_later ?_ _ | refine ext_drew ?_ | refine ext_drewN ?_ _ | refine ext_setCell ?_ _ _ (by first | assumption | (dsimp only; omega)) | assumption)))) ?_) | (with_reducible refine Gives.mono' (HA.out _ (HT.out.later (by repeat (first | exact ext_refl _ | refine ext_alloc ?_ _ | refine ext_later ?_ _ | refine ext_drew ?_ | refine ext_drewN ?_ _ | refine ext_setCell ?_ _ _ (by first | assumption | (dsimp only; omega)) | assumption)))) ?_)); intro x) | (go_at_call 9; (first | (with_reducible refine Gives.on (HR.out _) ?_) | (with_reducible refine Gives.mono' (HR.out _) ?_)); intro x))
  all_goals (go_ret; exact ⟨by first | rfl | (simp; omega), Later.ex (by repeat (first | exact ext_refl _ | refine ext_alloc ?_ _ | refine ext_later ?_ _ | refine ext_drew ?_ | refine ext_drewN ?_ _ | refine ext_setCell ?_ _ _ (by first | assumption | (dsimp only; omega)) | assumption))⟩)

set_option maxHeartbeats 4000000 in
set_option maxRecDepth 100000 in
theorem refutes_bad1 (self inc n i h : Int) (p : (0 ≤ self ∧ self < 8)) (q : inc < 0) (w : World) (ht : Tab w) : Gives Tryd.prog 5 #[.int .i64 self, .int .i64 inc, .agg #[.int .i64 n, .int .i64 i, .int .i64 h]] w (.bool true) := by
  unfold Gives
  have HT := Lib.hid ht
  have HR : Hid (∀ w, Gives Tryd.prog 9 #[.int .i64 self, .int .i64 inc, .agg #[.int .i64 n, .int .i64 i, .int .i64 h]] w (.tuple #[.int .i64 0, .int .i64 1])) := Lib.hid (fun w => (refute_any self inc n i h w).cast (by rw [(show refN self inc n i h = 0 by unfold refN; rw [if_pos (by omega)]), (show refE self inc n i h = 1 by unfold refE; rw [if_pos (by omega)])]))
  try (first | (have HN : Hid (∀ w, Gives Tryd.prog 19 #[.int .i64 self] w (.bool true)) := Lib.hid (fun w => (refNode_any self w).cast (by rw [show nodeB self = true from by simp only [nodeB, decide_eq_true_eq]; omega]))) | (have HN : Hid (∀ w, Gives Tryd.prog 19 #[.int .i64 self] w (.bool false)) := Lib.hid (fun w => (refNode_any self w).cast (by rw [show nodeB self = false from by simp only [nodeB, decide_eq_false_iff_not]; omega]))))
  try (first | (have HM : Hid (∀ w, Gives Tryd.prog 12 #[.agg #[.int .i64 n, .int .i64 i, .int .i64 h]] w (.bool true)) := Lib.hid (fun w => (may_any n i h w).cast (by rw [show mayB n i h = true from by simp only [mayB, decide_eq_true_eq]; omega]))) | (have HM : Hid (∀ w, Gives Tryd.prog 12 #[.agg #[.int .i64 n, .int .i64 i, .int .i64 h]] w (.bool false)) := Lib.hid (fun w => (may_any n i h w).cast (by rw [show mayB n i h = false from by simp only [mayB, decide_eq_false_iff_not]; omega]))))
  first | (have l3 : 0 ≤ inc := by omega) | (have l3 : inc < 0 := by omega) | skip
  first | (have l4 : inc ≤ 1000000 := by omega) | (have l4 : 1000000 < inc := by omega) | skip
  first | (have l5 : 0 ≤ i := by omega) | (have l5 : i < 0 := by omega) | skip
  first | (have l6 : i ≤ 1000000 := by omega) | (have l6 : 1000000 < i := by omega) | skip
  try (first | (have e1 : ((n : Int) != self) = true := by first | exact beq_iff_eq.2 (by omega) | (rw [bne_iff_ne]; omega)) | (have e1 : ((n : Int) != self) = false := by first | exact beq_eq_false_iff_ne.2 (by omega) | exact bne_eq_false_iff_eq.2 (by omega)))
  try (first | (have e2 : ((h : Int) == 4) = true := by first | exact beq_iff_eq.2 (by omega) | (rw [bne_iff_ne]; omega)) | (have e2 : ((h : Int) == 4) = false := by first | exact beq_eq_false_iff_ne.2 (by omega) | exact bne_eq_false_iff_eq.2 (by omega)))
  try (first | (have e3 : ((h : Int) == 1) = true := by first | exact beq_iff_eq.2 (by omega) | (rw [bne_iff_ne]; omega)) | (have e3 : ((h : Int) == 1) = false := by first | exact beq_eq_false_iff_ne.2 (by omega) | exact bne_eq_false_iff_eq.2 (by omega)))
  try (first | (have e4 : ((i : Int) == 1000000) = true := by first | exact beq_iff_eq.2 (by omega) | (rw [bne_iff_ne]; omega)) | (have e4 : ((i : Int) == 1000000) = false := by first | exact beq_eq_false_iff_ne.2 (by omega) | exact bne_eq_false_iff_eq.2 (by omega)))
  have HA : Hid (∀ w, Tab w → Gives Tryd.prog 18 #[] w (.bool true)) := Lib.hid awake_any
  clear p q ht
  go_enter Tryd.func5, Tryd.ntmps5
  go_wp2_with fail
  refine Gives.cut (fun W1 => ClaimAt W1 w.heap.size n i h ∧ Below w.heap.size w W1) (HR.out _) ?hF ?_
  case hF =>
    intro x
    exact ⟨⟨by simp [go_sem], by simp [go_sem], by simp [go_sem], by simp [go_sem], by simp [go_sem], by simp [go_sem], by simp [go_sem]⟩, (by repeat (first | exact ext_refl _ | refine ext_alloc ?_ _ | refine ext_later ?_ _ | refine ext_drew ?_ | refine ext_drewN ?_ _ | refine ext_setCell ?_ _ _ (by first | assumption | (dsimp only; omega)) | assumption))⟩
  rintro W1 ⟨⟨a0, a1, a2, a3, _, _, _⟩, hb⟩
  have hne : w.heap.size ≠ W1.heap.size := by omega
  have hle : w.heap.size ≤ W1.heap.size := by omega
  go_wp2_with (first | (go_at_call 19; (first | (with_reducible refine Gives.on (HN.out _) ?_) | (with_reducible refine Gives.mono' (HN.out _) ?_)); intro x) | (go_at_call 12; (first | (with_reducible refine Gives.on (HM.out _) ?_) | (with_reducible refine Gives.mono' (HM.out _) ?_)); intro x) | (go_at_call 18; (first | (with_reducible refine Gives.on (HA.out _ (HT.out.later (by repeat (first | exact ext_refl _ | refine ext_alloc ?_ _ | refine ext_later ?_ _ | refine ext_drew ?_ | refine ext_drewN ?_ _ | refine ext_setCell ?_ _ _ (by first | assumption | (dsimp only; omega)) | assumption)))) ?_) | (with_reducible refine Gives.mono' (HA.out _ (HT.out.later (by repeat (first | exact ext_refl _ | refine ext_alloc ?_ _ | refine ext_later ?_ _ | refine ext_drew ?_ | refine ext_drewN ?_ _ | refine ext_setCell ?_ _ _ (by first | assumption | (dsimp only; omega)) | assumption)))) ?_)); intro x) | (go_at_call 9; (first | (with_reducible refine Gives.on (HR.out _) ?_) | (with_reducible refine Gives.mono' (HR.out _) ?_)); intro x))
  all_goals (go_ret; exact ⟨by first | rfl | (simp; omega), Later.ex (by repeat (first | exact ext_refl _ | refine ext_alloc ?_ _ | refine ext_later ?_ _ | refine ext_drew ?_ | refine ext_drewN ?_ _ | refine ext_setCell ?_ _ _ (by first | assumption | (dsimp only; omega)) | assumption))⟩)

set_option maxHeartbeats 4000000 in
set_option maxRecDepth 100000 in
theorem refutes_bad2 (self inc n i h : Int) (p : (0 ≤ self ∧ self < 8)) (q : 1000000 < inc) (w : World) (ht : Tab w) : Gives Tryd.prog 5 #[.int .i64 self, .int .i64 inc, .agg #[.int .i64 n, .int .i64 i, .int .i64 h]] w (.bool true) := by
  unfold Gives
  have HT := Lib.hid ht
  have HR : Hid (∀ w, Gives Tryd.prog 9 #[.int .i64 self, .int .i64 inc, .agg #[.int .i64 n, .int .i64 i, .int .i64 h]] w (.tuple #[.int .i64 0, .int .i64 1])) := Lib.hid (fun w => (refute_any self inc n i h w).cast (by rw [(show refN self inc n i h = 0 by unfold refN; rw [if_pos (by omega)]), (show refE self inc n i h = 1 by unfold refE; rw [if_pos (by omega)])]))
  try (first | (have HN : Hid (∀ w, Gives Tryd.prog 19 #[.int .i64 self] w (.bool true)) := Lib.hid (fun w => (refNode_any self w).cast (by rw [show nodeB self = true from by simp only [nodeB, decide_eq_true_eq]; omega]))) | (have HN : Hid (∀ w, Gives Tryd.prog 19 #[.int .i64 self] w (.bool false)) := Lib.hid (fun w => (refNode_any self w).cast (by rw [show nodeB self = false from by simp only [nodeB, decide_eq_false_iff_not]; omega]))))
  try (first | (have HM : Hid (∀ w, Gives Tryd.prog 12 #[.agg #[.int .i64 n, .int .i64 i, .int .i64 h]] w (.bool true)) := Lib.hid (fun w => (may_any n i h w).cast (by rw [show mayB n i h = true from by simp only [mayB, decide_eq_true_eq]; omega]))) | (have HM : Hid (∀ w, Gives Tryd.prog 12 #[.agg #[.int .i64 n, .int .i64 i, .int .i64 h]] w (.bool false)) := Lib.hid (fun w => (may_any n i h w).cast (by rw [show mayB n i h = false from by simp only [mayB, decide_eq_false_iff_not]; omega]))))
  first | (have l3 : 0 ≤ inc := by omega) | (have l3 : inc < 0 := by omega) | skip
  first | (have l4 : inc ≤ 1000000 := by omega) | (have l4 : 1000000 < inc := by omega) | skip
  first | (have l5 : 0 ≤ i := by omega) | (have l5 : i < 0 := by omega) | skip
  first | (have l6 : i ≤ 1000000 := by omega) | (have l6 : 1000000 < i := by omega) | skip
  try (first | (have e1 : ((n : Int) != self) = true := by first | exact beq_iff_eq.2 (by omega) | (rw [bne_iff_ne]; omega)) | (have e1 : ((n : Int) != self) = false := by first | exact beq_eq_false_iff_ne.2 (by omega) | exact bne_eq_false_iff_eq.2 (by omega)))
  try (first | (have e2 : ((h : Int) == 4) = true := by first | exact beq_iff_eq.2 (by omega) | (rw [bne_iff_ne]; omega)) | (have e2 : ((h : Int) == 4) = false := by first | exact beq_eq_false_iff_ne.2 (by omega) | exact bne_eq_false_iff_eq.2 (by omega)))
  try (first | (have e3 : ((h : Int) == 1) = true := by first | exact beq_iff_eq.2 (by omega) | (rw [bne_iff_ne]; omega)) | (have e3 : ((h : Int) == 1) = false := by first | exact beq_eq_false_iff_ne.2 (by omega) | exact bne_eq_false_iff_eq.2 (by omega)))
  try (first | (have e4 : ((i : Int) == 1000000) = true := by first | exact beq_iff_eq.2 (by omega) | (rw [bne_iff_ne]; omega)) | (have e4 : ((i : Int) == 1000000) = false := by first | exact beq_eq_false_iff_ne.2 (by omega) | exact bne_eq_false_iff_eq.2 (by omega)))
  have HA : Hid (∀ w, Tab w → Gives Tryd.prog 18 #[] w (.bool true)) := Lib.hid awake_any
  clear p q ht
  go_enter Tryd.func5, Tryd.ntmps5
  go_wp2_with fail
  refine Gives.cut (fun W1 => ClaimAt W1 w.heap.size n i h ∧ Below w.heap.size w W1) (HR.out _) ?hF ?_
  case hF =>
    intro x
    exact ⟨⟨by simp [go_sem], by simp [go_sem], by simp [go_sem], by simp [go_sem], by simp [go_sem], by simp [go_sem], by simp [go_sem]⟩, (by repeat (first | exact ext_refl _ | refine ext_alloc ?_ _ | refine ext_later ?_ _ | refine ext_drew ?_ | refine ext_drewN ?_ _ | refine ext_setCell ?_ _ _ (by first | assumption | (dsimp only; omega)) | assumption))⟩
  rintro W1 ⟨⟨a0, a1, a2, a3, _, _, _⟩, hb⟩
  have hne : w.heap.size ≠ W1.heap.size := by omega
  have hle : w.heap.size ≤ W1.heap.size := by omega
  go_wp2_with (first | (go_at_call 19; (first | (with_reducible refine Gives.on (HN.out _) ?_) | (with_reducible refine Gives.mono' (HN.out _) ?_)); intro x) | (go_at_call 12; (first | (with_reducible refine Gives.on (HM.out _) ?_) | (with_reducible refine Gives.mono' (HM.out _) ?_)); intro x) | (go_at_call 18; (first | (with_reducible refine Gives.on (HA.out _ (HT.out.later (by repeat (first | exact ext_refl _ | refine ext_alloc ?_ _ | refine ext_later ?_ _ | refine ext_drew ?_ | refine ext_drewN ?_ _ | refine ext_setCell ?_ _ _ (by first | assumption | (dsimp only; omega)) | assumption)))) ?_) | (with_reducible refine Gives.mono' (HA.out _ (HT.out.later (by repeat (first | exact ext_refl _ | refine ext_alloc ?_ _ | refine ext_later ?_ _ | refine ext_drew ?_ | refine ext_drewN ?_ _ | refine ext_setCell ?_ _ _ (by first | assumption | (dsimp only; omega)) | assumption)))) ?_)); intro x) | (go_at_call 9; (first | (with_reducible refine Gives.on (HR.out _) ?_) | (with_reducible refine Gives.mono' (HR.out _) ?_)); intro x))
  all_goals (go_ret; exact ⟨by first | rfl | (simp; omega), Later.ex (by repeat (first | exact ext_refl _ | refine ext_alloc ?_ _ | refine ext_later ?_ _ | refine ext_drew ?_ | refine ext_drewN ?_ _ | refine ext_setCell ?_ _ _ (by first | assumption | (dsimp only; omega)) | assumption))⟩)

set_option maxHeartbeats 4000000 in
set_option maxRecDepth 100000 in
theorem refutes_bad3 (self inc n i h : Int) (p : (0 ≤ self ∧ self < 8)) (q : (0 ≤ inc ∧ inc ≤ 1000000)) (m : ¬ ((0 ≤ n ∧ n < 8) ∧ ((i = 0 ∧ h = 0) ∨ ((0 ≤ i ∧ i ≤ 1000000) ∧ 1 ≤ h ∧ h ≤ 4)))) (w : World) (ht : Tab w) : Gives Tryd.prog 5 #[.int .i64 self, .int .i64 inc, .agg #[.int .i64 n, .int .i64 i, .int .i64 h]] w (.bool true) := by
  unfold Gives
  have HT := Lib.hid ht
  have HR : Hid (∀ w, Gives Tryd.prog 9 #[.int .i64 self, .int .i64 inc, .agg #[.int .i64 n, .int .i64 i, .int .i64 h]] w (.tuple #[.int .i64 0, .int .i64 1])) := Lib.hid (fun w => (refute_any self inc n i h w).cast (by rw [(show refN self inc n i h = 0 by unfold refN; rw [if_pos (fun z => m z.2.2)]), (show refE self inc n i h = 1 by unfold refE; rw [if_pos (fun z => m z.2.2)])]))
  try (first | (have HN : Hid (∀ w, Gives Tryd.prog 19 #[.int .i64 self] w (.bool true)) := Lib.hid (fun w => (refNode_any self w).cast (by rw [show nodeB self = true from by simp only [nodeB, decide_eq_true_eq]; omega]))) | (have HN : Hid (∀ w, Gives Tryd.prog 19 #[.int .i64 self] w (.bool false)) := Lib.hid (fun w => (refNode_any self w).cast (by rw [show nodeB self = false from by simp only [nodeB, decide_eq_false_iff_not]; omega]))))
  try (first | (have HM : Hid (∀ w, Gives Tryd.prog 12 #[.agg #[.int .i64 n, .int .i64 i, .int .i64 h]] w (.bool true)) := Lib.hid (fun w => (may_any n i h w).cast (by rw [show mayB n i h = true from by simp only [mayB, decide_eq_true_eq]; omega]))) | (have HM : Hid (∀ w, Gives Tryd.prog 12 #[.agg #[.int .i64 n, .int .i64 i, .int .i64 h]] w (.bool false)) := Lib.hid (fun w => (may_any n i h w).cast (by rw [show mayB n i h = false from by simp only [mayB, decide_eq_false_iff_not]; omega]))))
  first | (have l3 : 0 ≤ inc := by omega) | (have l3 : inc < 0 := by omega) | skip
  first | (have l4 : inc ≤ 1000000 := by omega) | (have l4 : 1000000 < inc := by omega) | skip
  first | (have l5 : 0 ≤ i := by omega) | (have l5 : i < 0 := by omega) | skip
  first | (have l6 : i ≤ 1000000 := by omega) | (have l6 : 1000000 < i := by omega) | skip
  try (first | (have e1 : ((n : Int) != self) = true := by first | exact beq_iff_eq.2 (by omega) | (rw [bne_iff_ne]; omega)) | (have e1 : ((n : Int) != self) = false := by first | exact beq_eq_false_iff_ne.2 (by omega) | exact bne_eq_false_iff_eq.2 (by omega)))
  try (first | (have e2 : ((h : Int) == 4) = true := by first | exact beq_iff_eq.2 (by omega) | (rw [bne_iff_ne]; omega)) | (have e2 : ((h : Int) == 4) = false := by first | exact beq_eq_false_iff_ne.2 (by omega) | exact bne_eq_false_iff_eq.2 (by omega)))
  try (first | (have e3 : ((h : Int) == 1) = true := by first | exact beq_iff_eq.2 (by omega) | (rw [bne_iff_ne]; omega)) | (have e3 : ((h : Int) == 1) = false := by first | exact beq_eq_false_iff_ne.2 (by omega) | exact bne_eq_false_iff_eq.2 (by omega)))
  try (first | (have e4 : ((i : Int) == 1000000) = true := by first | exact beq_iff_eq.2 (by omega) | (rw [bne_iff_ne]; omega)) | (have e4 : ((i : Int) == 1000000) = false := by first | exact beq_eq_false_iff_ne.2 (by omega) | exact bne_eq_false_iff_eq.2 (by omega)))
  have HA : Hid (∀ w, Tab w → Gives Tryd.prog 18 #[] w (.bool true)) := Lib.hid awake_any
  clear p q m ht
  go_enter Tryd.func5, Tryd.ntmps5
  go_wp2_with fail
  refine Gives.cut (fun W1 => ClaimAt W1 w.heap.size n i h ∧ Below w.heap.size w W1) (HR.out _) ?hF ?_
  case hF =>
    intro x
    exact ⟨⟨by simp [go_sem], by simp [go_sem], by simp [go_sem], by simp [go_sem], by simp [go_sem], by simp [go_sem], by simp [go_sem]⟩, (by repeat (first | exact ext_refl _ | refine ext_alloc ?_ _ | refine ext_later ?_ _ | refine ext_drew ?_ | refine ext_drewN ?_ _ | refine ext_setCell ?_ _ _ (by first | assumption | (dsimp only; omega)) | assumption))⟩
  rintro W1 ⟨⟨a0, a1, a2, a3, _, _, _⟩, hb⟩
  have hne : w.heap.size ≠ W1.heap.size := by omega
  have hle : w.heap.size ≤ W1.heap.size := by omega
  go_wp2_with (first | (go_at_call 19; (first | (with_reducible refine Gives.on (HN.out _) ?_) | (with_reducible refine Gives.mono' (HN.out _) ?_)); intro x) | (go_at_call 12; (first | (with_reducible refine Gives.on (HM.out _) ?_) | (with_reducible refine Gives.mono' (HM.out _) ?_)); intro x) | (go_at_call 18; (first | (with_reducible refine Gives.on (HA.out _ (HT.out.later (by repeat (first | exact ext_refl _ | refine ext_alloc ?_ _ | refine ext_later ?_ _ | refine ext_drew ?_ | refine ext_drewN ?_ _ | refine ext_setCell ?_ _ _ (by first | assumption | (dsimp only; omega)) | assumption)))) ?_) | (with_reducible refine Gives.mono' (HA.out _ (HT.out.later (by repeat (first | exact ext_refl _ | refine ext_alloc ?_ _ | refine ext_later ?_ _ | refine ext_drew ?_ | refine ext_drewN ?_ _ | refine ext_setCell ?_ _ _ (by first | assumption | (dsimp only; omega)) | assumption)))) ?_)); intro x) | (go_at_call 9; (first | (with_reducible refine Gives.on (HR.out _) ?_) | (with_reducible refine Gives.mono' (HR.out _) ?_)); intro x))
  all_goals (go_ret; exact ⟨by first | rfl | (simp; omega), Later.ex (by repeat (first | exact ext_refl _ | refine ext_alloc ?_ _ | refine ext_later ?_ _ | refine ext_drew ?_ | refine ext_drewN ?_ _ | refine ext_setCell ?_ _ _ (by first | assumption | (dsimp only; omega)) | assumption))⟩)

set_option maxHeartbeats 4000000 in
set_option maxRecDepth 100000 in
theorem refutes_over (self inc n i h : Int) (p : (0 ≤ self ∧ self < 8)) (q : (0 ≤ inc ∧ inc ≤ 1000000)) (m : ((0 ≤ n ∧ n < 8) ∧ ((i = 0 ∧ h = 0) ∨ ((0 ≤ i ∧ i ≤ 1000000) ∧ 1 ≤ h ∧ h ≤ 4)))) (e : n = self) (a : h = 2 ∨ h = 3) (b : inc ≤ i) (c : i = 1000000) (w : World) (ht : Tab w) : Gives Tryd.prog 5 #[.int .i64 self, .int .i64 inc, .agg #[.int .i64 n, .int .i64 i, .int .i64 h]] w (.bool true) := by
  unfold Gives
  have HT := Lib.hid ht
  have HR : Hid (∀ w, Gives Tryd.prog 9 #[.int .i64 self, .int .i64 inc, .agg #[.int .i64 n, .int .i64 i, .int .i64 h]] w (.tuple #[.int .i64 inc, .int .i64 6])) := Lib.hid (fun w => (refute_any self inc n i h w).cast (by rw [(show refN self inc n i h = inc by unfold refN; rw [if_neg (fun z => z ⟨p, q, m⟩), if_neg (by omega), if_pos (by omega)]), (show refE self inc n i h = 6 by unfold refE; rw [if_neg (fun z => z ⟨p, q, m⟩), if_neg (by omega), if_pos (by omega)])]))
  try (first | (have HN : Hid (∀ w, Gives Tryd.prog 19 #[.int .i64 self] w (.bool true)) := Lib.hid (fun w => (refNode_any self w).cast (by rw [show nodeB self = true from by simp only [nodeB, decide_eq_true_eq]; omega]))) | (have HN : Hid (∀ w, Gives Tryd.prog 19 #[.int .i64 self] w (.bool false)) := Lib.hid (fun w => (refNode_any self w).cast (by rw [show nodeB self = false from by simp only [nodeB, decide_eq_false_iff_not]; omega]))))
  try (first | (have HM : Hid (∀ w, Gives Tryd.prog 12 #[.agg #[.int .i64 n, .int .i64 i, .int .i64 h]] w (.bool true)) := Lib.hid (fun w => (may_any n i h w).cast (by rw [show mayB n i h = true from by simp only [mayB, decide_eq_true_eq]; omega]))) | (have HM : Hid (∀ w, Gives Tryd.prog 12 #[.agg #[.int .i64 n, .int .i64 i, .int .i64 h]] w (.bool false)) := Lib.hid (fun w => (may_any n i h w).cast (by rw [show mayB n i h = false from by simp only [mayB, decide_eq_false_iff_not]; omega]))))
  first | (have l3 : 0 ≤ inc := by omega) | (have l3 : inc < 0 := by omega) | skip
  first | (have l4 : inc ≤ 1000000 := by omega) | (have l4 : 1000000 < inc := by omega) | skip
  first | (have l5 : 0 ≤ i := by omega) | (have l5 : i < 0 := by omega) | skip
  first | (have l6 : i ≤ 1000000 := by omega) | (have l6 : 1000000 < i := by omega) | skip
  try (first | (have e1 : ((n : Int) != self) = true := by first | exact beq_iff_eq.2 (by omega) | (rw [bne_iff_ne]; omega)) | (have e1 : ((n : Int) != self) = false := by first | exact beq_eq_false_iff_ne.2 (by omega) | exact bne_eq_false_iff_eq.2 (by omega)))
  try (first | (have e2 : ((h : Int) == 4) = true := by first | exact beq_iff_eq.2 (by omega) | (rw [bne_iff_ne]; omega)) | (have e2 : ((h : Int) == 4) = false := by first | exact beq_eq_false_iff_ne.2 (by omega) | exact bne_eq_false_iff_eq.2 (by omega)))
  try (first | (have e3 : ((h : Int) == 1) = true := by first | exact beq_iff_eq.2 (by omega) | (rw [bne_iff_ne]; omega)) | (have e3 : ((h : Int) == 1) = false := by first | exact beq_eq_false_iff_ne.2 (by omega) | exact bne_eq_false_iff_eq.2 (by omega)))
  try (first | (have e4 : ((i : Int) == 1000000) = true := by first | exact beq_iff_eq.2 (by omega) | (rw [bne_iff_ne]; omega)) | (have e4 : ((i : Int) == 1000000) = false := by first | exact beq_eq_false_iff_ne.2 (by omega) | exact bne_eq_false_iff_eq.2 (by omega)))
  have HA : Hid (∀ w, Tab w → Gives Tryd.prog 18 #[] w (.bool true)) := Lib.hid awake_any
  clear p q m e a b c ht
  go_enter Tryd.func5, Tryd.ntmps5
  go_wp2_with fail
  refine Gives.cut (fun W1 => ClaimAt W1 w.heap.size n i h ∧ Below w.heap.size w W1) (HR.out _) ?hF ?_
  case hF =>
    intro x
    exact ⟨⟨by simp [go_sem], by simp [go_sem], by simp [go_sem], by simp [go_sem], by simp [go_sem], by simp [go_sem], by simp [go_sem]⟩, (by repeat (first | exact ext_refl _ | refine ext_alloc ?_ _ | refine ext_later ?_ _ | refine ext_drew ?_ | refine ext_drewN ?_ _ | refine ext_setCell ?_ _ _ (by first | assumption | (dsimp only; omega)) | assumption))⟩
  rintro W1 ⟨⟨a0, a1, a2, a3, _, _, _⟩, hb⟩
  have hne : w.heap.size ≠ W1.heap.size := by omega
  have hle : w.heap.size ≤ W1.heap.size := by omega
  go_wp2_with (first | (go_at_call 19; (first | (with_reducible refine Gives.on (HN.out _) ?_) | (with_reducible refine Gives.mono' (HN.out _) ?_)); intro x) | (go_at_call 12; (first | (with_reducible refine Gives.on (HM.out _) ?_) | (with_reducible refine Gives.mono' (HM.out _) ?_)); intro x) | (go_at_call 18; (first | (with_reducible refine Gives.on (HA.out _ (HT.out.later (by repeat (first | exact ext_refl _ | refine ext_alloc ?_ _ | refine ext_later ?_ _ | refine ext_drew ?_ | refine ext_drewN ?_ _ | refine ext_setCell ?_ _ _ (by first | assumption | (dsimp only; omega)) | assumption)))) ?_) | (with_reducible refine Gives.mono' (HA.out _ (HT.out.later (by repeat (first | exact ext_refl _ | refine ext_alloc ?_ _ | refine ext_later ?_ _ | refine ext_drew ?_ | refine ext_drewN ?_ _ | refine ext_setCell ?_ _ _ (by first | assumption | (dsimp only; omega)) | assumption)))) ?_)); intro x) | (go_at_call 9; (first | (with_reducible refine Gives.on (HR.out _) ?_) | (with_reducible refine Gives.mono' (HR.out _) ?_)); intro x))
  all_goals (go_ret; exact ⟨by first | rfl | (simp; omega), Later.ex (by repeat (first | exact ext_refl _ | refine ext_alloc ?_ _ | refine ext_later ?_ _ | refine ext_drew ?_ | refine ext_drewN ?_ _ | refine ext_setCell ?_ _ _ (by first | assumption | (dsimp only; omega)) | assumption))⟩)

set_option maxHeartbeats 4000000 in
set_option maxRecDepth 100000 in
theorem refutes_other (self inc n i h : Int) (p : (0 ≤ self ∧ self < 8)) (q : (0 ≤ inc ∧ inc ≤ 1000000)) (m : ((0 ≤ n ∧ n < 8) ∧ ((i = 0 ∧ h = 0) ∨ ((0 ≤ i ∧ i ≤ 1000000) ∧ 1 ≤ h ∧ h ≤ 4)))) (e : n ≠ self) (w : World) (ht : Tab w) : Gives Tryd.prog 5 #[.int .i64 self, .int .i64 inc, .agg #[.int .i64 n, .int .i64 i, .int .i64 h]] w (.bool true) := by
  unfold Gives
  have HT := Lib.hid ht
  have HR : Hid (∀ w, Gives Tryd.prog 9 #[.int .i64 self, .int .i64 inc, .agg #[.int .i64 n, .int .i64 i, .int .i64 h]] w (.tuple #[.int .i64 inc, .int .i64 0])) := Lib.hid (fun w => (refute_any self inc n i h w).cast (by rw [(show refN self inc n i h = inc by unfold refN; rw [if_neg (fun z => z ⟨p, q, m⟩), if_pos (Or.inl e)]), (show refE self inc n i h = 0 by unfold refE; rw [if_neg (fun z => z ⟨p, q, m⟩), if_pos (Or.inl e)])]))
  try (first | (have HN : Hid (∀ w, Gives Tryd.prog 19 #[.int .i64 self] w (.bool true)) := Lib.hid (fun w => (refNode_any self w).cast (by rw [show nodeB self = true from by simp only [nodeB, decide_eq_true_eq]; omega]))) | (have HN : Hid (∀ w, Gives Tryd.prog 19 #[.int .i64 self] w (.bool false)) := Lib.hid (fun w => (refNode_any self w).cast (by rw [show nodeB self = false from by simp only [nodeB, decide_eq_false_iff_not]; omega]))))
  try (first | (have HM : Hid (∀ w, Gives Tryd.prog 12 #[.agg #[.int .i64 n, .int .i64 i, .int .i64 h]] w (.bool true)) := Lib.hid (fun w => (may_any n i h w).cast (by rw [show mayB n i h = true from by simp only [mayB, decide_eq_true_eq]; omega]))) | (have HM : Hid (∀ w, Gives Tryd.prog 12 #[.agg #[.int .i64 n, .int .i64 i, .int .i64 h]] w (.bool false)) := Lib.hid (fun w => (may_any n i h w).cast (by rw [show mayB n i h = false from by simp only [mayB, decide_eq_false_iff_not]; omega]))))
  first | (have l3 : 0 ≤ inc := by omega) | (have l3 : inc < 0 := by omega) | skip
  first | (have l4 : inc ≤ 1000000 := by omega) | (have l4 : 1000000 < inc := by omega) | skip
  first | (have l5 : 0 ≤ i := by omega) | (have l5 : i < 0 := by omega) | skip
  first | (have l6 : i ≤ 1000000 := by omega) | (have l6 : 1000000 < i := by omega) | skip
  try (first | (have e1 : ((n : Int) != self) = true := by first | exact beq_iff_eq.2 (by omega) | (rw [bne_iff_ne]; omega)) | (have e1 : ((n : Int) != self) = false := by first | exact beq_eq_false_iff_ne.2 (by omega) | exact bne_eq_false_iff_eq.2 (by omega)))
  try (first | (have e2 : ((h : Int) == 4) = true := by first | exact beq_iff_eq.2 (by omega) | (rw [bne_iff_ne]; omega)) | (have e2 : ((h : Int) == 4) = false := by first | exact beq_eq_false_iff_ne.2 (by omega) | exact bne_eq_false_iff_eq.2 (by omega)))
  try (first | (have e3 : ((h : Int) == 1) = true := by first | exact beq_iff_eq.2 (by omega) | (rw [bne_iff_ne]; omega)) | (have e3 : ((h : Int) == 1) = false := by first | exact beq_eq_false_iff_ne.2 (by omega) | exact bne_eq_false_iff_eq.2 (by omega)))
  try (first | (have e4 : ((i : Int) == 1000000) = true := by first | exact beq_iff_eq.2 (by omega) | (rw [bne_iff_ne]; omega)) | (have e4 : ((i : Int) == 1000000) = false := by first | exact beq_eq_false_iff_ne.2 (by omega) | exact bne_eq_false_iff_eq.2 (by omega)))
  have HO : Hid (∀ w, Gives Tryd.prog 12 #[.agg #[.int .i64 self, .int .i64 (inc), .int .i64 1]] w (.bool true)) := Lib.hid (fun w => (may_any self (inc) 1 w).cast (by rw [show mayB self (inc) 1 = true from by simp only [mayB, decide_eq_true_eq]; omega]))
  obtain ⟨x, ex⟩ : ∃ x, cmpC inc 1 i h = x := ⟨_, rfl⟩
  have HX : Hid (∀ w, Gives Tryd.prog 14 #[.agg #[.int .i64 self, .int .i64 inc, .int .i64 1], .agg #[.int .i64 n, .int .i64 i, .int .i64 h]] w (.int .i64 x)) := Lib.hid (fun w => (compare_any self inc 1 n i h w).cast (by rw [ex]))
  obtain ⟨y, ey⟩ : ∃ y, cmpC (inc) 1 i h = y := ⟨_, rfl⟩
  have HY : Hid (∀ w, Gives Tryd.prog 14 #[.agg #[.int .i64 self, .int .i64 (inc), .int .i64 1], .agg #[.int .i64 n, .int .i64 i, .int .i64 h]] w (.int .i64 y)) := Lib.hid (fun w => (compare_any self (inc) 1 n i h w).cast (by rw [ey]))
  have HA : Hid (∀ w, Tab w → Gives Tryd.prog 18 #[] w (.bool true)) := Lib.hid awake_any
  clear p q m e ht ex ey
  go_enter Tryd.func5, Tryd.ntmps5
  go_wp2_with fail
  refine Gives.cut (fun W1 => ClaimAt W1 w.heap.size n i h ∧ Below w.heap.size w W1) (HR.out _) ?hF ?_
  case hF =>
    intro x
    exact ⟨⟨by simp [go_sem], by simp [go_sem], by simp [go_sem], by simp [go_sem], by simp [go_sem], by simp [go_sem], by simp [go_sem]⟩, (by repeat (first | exact ext_refl _ | refine ext_alloc ?_ _ | refine ext_later ?_ _ | refine ext_drew ?_ | refine ext_drewN ?_ _ | refine ext_setCell ?_ _ _ (by first | assumption | (dsimp only; omega)) | assumption))⟩
  rintro W1 ⟨⟨a0, a1, a2, a3, _, _, _⟩, hb⟩
  have hne : w.heap.size ≠ W1.heap.size := by omega
  have hle : w.heap.size ≤ W1.heap.size := by omega
  go_wp2_with (first | (go_at_call 19; (first | (with_reducible refine Gives.on (HN.out _) ?_) | (with_reducible refine Gives.mono' (HN.out _) ?_)); intro x) | (go_at_call 12; (first | (with_reducible refine Gives.on (HM.out _) ?_) | (with_reducible refine Gives.mono' (HM.out _) ?_)); intro x) | (go_at_call 18; (first | (with_reducible refine Gives.on (HA.out _ (HT.out.later (by repeat (first | exact ext_refl _ | refine ext_alloc ?_ _ | refine ext_later ?_ _ | refine ext_drew ?_ | refine ext_drewN ?_ _ | refine ext_setCell ?_ _ _ (by first | assumption | (dsimp only; omega)) | assumption)))) ?_) | (with_reducible refine Gives.mono' (HA.out _ (HT.out.later (by repeat (first | exact ext_refl _ | refine ext_alloc ?_ _ | refine ext_later ?_ _ | refine ext_drew ?_ | refine ext_drewN ?_ _ | refine ext_setCell ?_ _ _ (by first | assumption | (dsimp only; omega)) | assumption)))) ?_)); intro x) | (go_at_call 9; (first | (with_reducible refine Gives.on (HR.out _) ?_) | (with_reducible refine Gives.mono' (HR.out _) ?_)); intro x) | (go_at_call 12; (first | (with_reducible refine Gives.on (HO.out _) ?_) | (with_reducible refine Gives.mono' (HO.out _) ?_)); intro x) | (go_at_call 14; (first | (with_reducible refine Gives.on (HX.out _) ?_) | (with_reducible refine Gives.mono' (HX.out _) ?_)); intro x) | (go_at_call 14; (first | (with_reducible refine Gives.on (HY.out _) ?_) | (with_reducible refine Gives.mono' (HY.out _) ?_)); intro x))
  all_goals (go_ret; exact ⟨by first | rfl | (simp; omega), Later.ex (by repeat (first | exact ext_refl _ | refine ext_alloc ?_ _ | refine ext_later ?_ _ | refine ext_drew ?_ | refine ext_drewN ?_ _ | refine ext_setCell ?_ _ _ (by first | assumption | (dsimp only; omega)) | assumption))⟩)

set_option maxHeartbeats 4000000 in
set_option maxRecDepth 100000 in
theorem refutes_left (self inc n i h : Int) (p : (0 ≤ self ∧ self < 8)) (q : (0 ≤ inc ∧ inc ≤ 1000000)) (m : ((0 ≤ n ∧ n < 8) ∧ ((i = 0 ∧ h = 0) ∨ ((0 ≤ i ∧ i ≤ 1000000) ∧ 1 ≤ h ∧ h ≤ 4)))) (e : n = self) (a : h = 4) (w : World) (ht : Tab w) : Gives Tryd.prog 5 #[.int .i64 self, .int .i64 inc, .agg #[.int .i64 n, .int .i64 i, .int .i64 h]] w (.bool true) := by
  unfold Gives
  have HT := Lib.hid ht
  have HR : Hid (∀ w, Gives Tryd.prog 9 #[.int .i64 self, .int .i64 inc, .agg #[.int .i64 n, .int .i64 i, .int .i64 h]] w (.tuple #[.int .i64 inc, .int .i64 0])) := Lib.hid (fun w => (refute_any self inc n i h w).cast (by rw [(show refN self inc n i h = inc by unfold refN; rw [if_neg (fun z => z ⟨p, q, m⟩), if_pos (by omega)]), (show refE self inc n i h = 0 by unfold refE; rw [if_neg (fun z => z ⟨p, q, m⟩), if_pos (by omega)])]))
  try (first | (have HN : Hid (∀ w, Gives Tryd.prog 19 #[.int .i64 self] w (.bool true)) := Lib.hid (fun w => (refNode_any self w).cast (by rw [show nodeB self = true from by simp only [nodeB, decide_eq_true_eq]; omega]))) | (have HN : Hid (∀ w, Gives Tryd.prog 19 #[.int .i64 self] w (.bool false)) := Lib.hid (fun w => (refNode_any self w).cast (by rw [show nodeB self = false from by simp only [nodeB, decide_eq_false_iff_not]; omega]))))
  try (first | (have HM : Hid (∀ w, Gives Tryd.prog 12 #[.agg #[.int .i64 n, .int .i64 i, .int .i64 h]] w (.bool true)) := Lib.hid (fun w => (may_any n i h w).cast (by rw [show mayB n i h = true from by simp only [mayB, decide_eq_true_eq]; omega]))) | (have HM : Hid (∀ w, Gives Tryd.prog 12 #[.agg #[.int .i64 n, .int .i64 i, .int .i64 h]] w (.bool false)) := Lib.hid (fun w => (may_any n i h w).cast (by rw [show mayB n i h = false from by simp only [mayB, decide_eq_false_iff_not]; omega]))))
  first | (have l3 : 0 ≤ inc := by omega) | (have l3 : inc < 0 := by omega) | skip
  first | (have l4 : inc ≤ 1000000 := by omega) | (have l4 : 1000000 < inc := by omega) | skip
  first | (have l5 : 0 ≤ i := by omega) | (have l5 : i < 0 := by omega) | skip
  first | (have l6 : i ≤ 1000000 := by omega) | (have l6 : 1000000 < i := by omega) | skip
  try (first | (have e1 : ((n : Int) != self) = true := by first | exact beq_iff_eq.2 (by omega) | (rw [bne_iff_ne]; omega)) | (have e1 : ((n : Int) != self) = false := by first | exact beq_eq_false_iff_ne.2 (by omega) | exact bne_eq_false_iff_eq.2 (by omega)))
  try (first | (have e2 : ((h : Int) == 4) = true := by first | exact beq_iff_eq.2 (by omega) | (rw [bne_iff_ne]; omega)) | (have e2 : ((h : Int) == 4) = false := by first | exact beq_eq_false_iff_ne.2 (by omega) | exact bne_eq_false_iff_eq.2 (by omega)))
  try (first | (have e3 : ((h : Int) == 1) = true := by first | exact beq_iff_eq.2 (by omega) | (rw [bne_iff_ne]; omega)) | (have e3 : ((h : Int) == 1) = false := by first | exact beq_eq_false_iff_ne.2 (by omega) | exact bne_eq_false_iff_eq.2 (by omega)))
  try (first | (have e4 : ((i : Int) == 1000000) = true := by first | exact beq_iff_eq.2 (by omega) | (rw [bne_iff_ne]; omega)) | (have e4 : ((i : Int) == 1000000) = false := by first | exact beq_eq_false_iff_ne.2 (by omega) | exact bne_eq_false_iff_eq.2 (by omega)))
  have HO : Hid (∀ w, Gives Tryd.prog 12 #[.agg #[.int .i64 self, .int .i64 (inc), .int .i64 1]] w (.bool true)) := Lib.hid (fun w => (may_any self (inc) 1 w).cast (by rw [show mayB self (inc) 1 = true from by simp only [mayB, decide_eq_true_eq]; omega]))
  obtain ⟨x, ex⟩ : ∃ x, cmpC inc 1 i h = x := ⟨_, rfl⟩
  have HX : Hid (∀ w, Gives Tryd.prog 14 #[.agg #[.int .i64 self, .int .i64 inc, .int .i64 1], .agg #[.int .i64 n, .int .i64 i, .int .i64 h]] w (.int .i64 x)) := Lib.hid (fun w => (compare_any self inc 1 n i h w).cast (by rw [ex]))
  obtain ⟨y, ey⟩ : ∃ y, cmpC (inc) 1 i h = y := ⟨_, rfl⟩
  have HY : Hid (∀ w, Gives Tryd.prog 14 #[.agg #[.int .i64 self, .int .i64 (inc), .int .i64 1], .agg #[.int .i64 n, .int .i64 i, .int .i64 h]] w (.int .i64 y)) := Lib.hid (fun w => (compare_any self (inc) 1 n i h w).cast (by rw [ey]))
  have HA : Hid (∀ w, Tab w → Gives Tryd.prog 18 #[] w (.bool true)) := Lib.hid awake_any
  clear p q m e a ht ex ey
  go_enter Tryd.func5, Tryd.ntmps5
  go_wp2_with fail
  refine Gives.cut (fun W1 => ClaimAt W1 w.heap.size n i h ∧ Below w.heap.size w W1) (HR.out _) ?hF ?_
  case hF =>
    intro x
    exact ⟨⟨by simp [go_sem], by simp [go_sem], by simp [go_sem], by simp [go_sem], by simp [go_sem], by simp [go_sem], by simp [go_sem]⟩, (by repeat (first | exact ext_refl _ | refine ext_alloc ?_ _ | refine ext_later ?_ _ | refine ext_drew ?_ | refine ext_drewN ?_ _ | refine ext_setCell ?_ _ _ (by first | assumption | (dsimp only; omega)) | assumption))⟩
  rintro W1 ⟨⟨a0, a1, a2, a3, _, _, _⟩, hb⟩
  have hne : w.heap.size ≠ W1.heap.size := by omega
  have hle : w.heap.size ≤ W1.heap.size := by omega
  go_wp2_with (first | (go_at_call 19; (first | (with_reducible refine Gives.on (HN.out _) ?_) | (with_reducible refine Gives.mono' (HN.out _) ?_)); intro x) | (go_at_call 12; (first | (with_reducible refine Gives.on (HM.out _) ?_) | (with_reducible refine Gives.mono' (HM.out _) ?_)); intro x) | (go_at_call 18; (first | (with_reducible refine Gives.on (HA.out _ (HT.out.later (by repeat (first | exact ext_refl _ | refine ext_alloc ?_ _ | refine ext_later ?_ _ | refine ext_drew ?_ | refine ext_drewN ?_ _ | refine ext_setCell ?_ _ _ (by first | assumption | (dsimp only; omega)) | assumption)))) ?_) | (with_reducible refine Gives.mono' (HA.out _ (HT.out.later (by repeat (first | exact ext_refl _ | refine ext_alloc ?_ _ | refine ext_later ?_ _ | refine ext_drew ?_ | refine ext_drewN ?_ _ | refine ext_setCell ?_ _ _ (by first | assumption | (dsimp only; omega)) | assumption)))) ?_)); intro x) | (go_at_call 9; (first | (with_reducible refine Gives.on (HR.out _) ?_) | (with_reducible refine Gives.mono' (HR.out _) ?_)); intro x) | (go_at_call 12; (first | (with_reducible refine Gives.on (HO.out _) ?_) | (with_reducible refine Gives.mono' (HO.out _) ?_)); intro x) | (go_at_call 14; (first | (with_reducible refine Gives.on (HX.out _) ?_) | (with_reducible refine Gives.mono' (HX.out _) ?_)); intro x) | (go_at_call 14; (first | (with_reducible refine Gives.on (HY.out _) ?_) | (with_reducible refine Gives.mono' (HY.out _) ?_)); intro x))
  all_goals (go_ret; exact ⟨by first | rfl | (simp; omega), Later.ex (by repeat (first | exact ext_refl _ | refine ext_alloc ?_ _ | refine ext_later ?_ _ | refine ext_drew ?_ | refine ext_drewN ?_ _ | refine ext_setCell ?_ _ _ (by first | assumption | (dsimp only; omega)) | assumption))⟩)

set_option maxHeartbeats 4000000 in
set_option maxRecDepth 100000 in
theorem refutes_lower (self inc n i h : Int) (p : (0 ≤ self ∧ self < 8)) (q : (0 ≤ inc ∧ inc ≤ 1000000)) (m : ((0 ≤ n ∧ n < 8) ∧ ((i = 0 ∧ h = 0) ∨ ((0 ≤ i ∧ i ≤ 1000000) ∧ 1 ≤ h ∧ h ≤ 4)))) (e : n = self) (a : h ≠ 4) (b : 0 ≤ cmpC inc 1 i h) (z : i < inc ∨ (i = inc ∧ h ≤ 1)) (w : World) (ht : Tab w) : Gives Tryd.prog 5 #[.int .i64 self, .int .i64 inc, .agg #[.int .i64 n, .int .i64 i, .int .i64 h]] w (.bool true) := by
  unfold Gives
  have HT := Lib.hid ht
  have HR : Hid (∀ w, Gives Tryd.prog 9 #[.int .i64 self, .int .i64 inc, .agg #[.int .i64 n, .int .i64 i, .int .i64 h]] w (.tuple #[.int .i64 inc, .int .i64 0])) := Lib.hid (fun w => (refute_any self inc n i h w).cast (by rw [(show refN self inc n i h = inc by unfold refN; rw [if_neg (fun z => z ⟨p, q, m⟩), if_pos (by omega)]), (show refE self inc n i h = 0 by unfold refE; rw [if_neg (fun z => z ⟨p, q, m⟩), if_pos (by omega)])]))
  try (first | (have HN : Hid (∀ w, Gives Tryd.prog 19 #[.int .i64 self] w (.bool true)) := Lib.hid (fun w => (refNode_any self w).cast (by rw [show nodeB self = true from by simp only [nodeB, decide_eq_true_eq]; omega]))) | (have HN : Hid (∀ w, Gives Tryd.prog 19 #[.int .i64 self] w (.bool false)) := Lib.hid (fun w => (refNode_any self w).cast (by rw [show nodeB self = false from by simp only [nodeB, decide_eq_false_iff_not]; omega]))))
  try (first | (have HM : Hid (∀ w, Gives Tryd.prog 12 #[.agg #[.int .i64 n, .int .i64 i, .int .i64 h]] w (.bool true)) := Lib.hid (fun w => (may_any n i h w).cast (by rw [show mayB n i h = true from by simp only [mayB, decide_eq_true_eq]; omega]))) | (have HM : Hid (∀ w, Gives Tryd.prog 12 #[.agg #[.int .i64 n, .int .i64 i, .int .i64 h]] w (.bool false)) := Lib.hid (fun w => (may_any n i h w).cast (by rw [show mayB n i h = false from by simp only [mayB, decide_eq_false_iff_not]; omega]))))
  first | (have l3 : 0 ≤ inc := by omega) | (have l3 : inc < 0 := by omega) | skip
  first | (have l4 : inc ≤ 1000000 := by omega) | (have l4 : 1000000 < inc := by omega) | skip
  first | (have l5 : 0 ≤ i := by omega) | (have l5 : i < 0 := by omega) | skip
  first | (have l6 : i ≤ 1000000 := by omega) | (have l6 : 1000000 < i := by omega) | skip
  try (first | (have e1 : ((n : Int) != self) = true := by first | exact beq_iff_eq.2 (by omega) | (rw [bne_iff_ne]; omega)) | (have e1 : ((n : Int) != self) = false := by first | exact beq_eq_false_iff_ne.2 (by omega) | exact bne_eq_false_iff_eq.2 (by omega)))
  try (first | (have e2 : ((h : Int) == 4) = true := by first | exact beq_iff_eq.2 (by omega) | (rw [bne_iff_ne]; omega)) | (have e2 : ((h : Int) == 4) = false := by first | exact beq_eq_false_iff_ne.2 (by omega) | exact bne_eq_false_iff_eq.2 (by omega)))
  try (first | (have e3 : ((h : Int) == 1) = true := by first | exact beq_iff_eq.2 (by omega) | (rw [bne_iff_ne]; omega)) | (have e3 : ((h : Int) == 1) = false := by first | exact beq_eq_false_iff_ne.2 (by omega) | exact bne_eq_false_iff_eq.2 (by omega)))
  try (first | (have e4 : ((i : Int) == 1000000) = true := by first | exact beq_iff_eq.2 (by omega) | (rw [bne_iff_ne]; omega)) | (have e4 : ((i : Int) == 1000000) = false := by first | exact beq_eq_false_iff_ne.2 (by omega) | exact bne_eq_false_iff_eq.2 (by omega)))
  have HO : Hid (∀ w, Gives Tryd.prog 12 #[.agg #[.int .i64 self, .int .i64 (inc), .int .i64 1]] w (.bool true)) := Lib.hid (fun w => (may_any self (inc) 1 w).cast (by rw [show mayB self (inc) 1 = true from by simp only [mayB, decide_eq_true_eq]; omega]))
  obtain ⟨x, ex⟩ : ∃ x, cmpC inc 1 i h = x := ⟨_, rfl⟩
  have HX : Hid (∀ w, Gives Tryd.prog 14 #[.agg #[.int .i64 self, .int .i64 inc, .int .i64 1], .agg #[.int .i64 n, .int .i64 i, .int .i64 h]] w (.int .i64 x)) := Lib.hid (fun w => (compare_any self inc 1 n i h w).cast (by rw [ex]))
  have hx : 0 ≤ x := by rw [← ex]; exact b
  obtain ⟨y, ey⟩ : ∃ y, cmpC (inc) 1 i h = y := ⟨_, rfl⟩
  have HY : Hid (∀ w, Gives Tryd.prog 14 #[.agg #[.int .i64 self, .int .i64 (inc), .int .i64 1], .agg #[.int .i64 n, .int .i64 i, .int .i64 h]] w (.int .i64 y)) := Lib.hid (fun w => (compare_any self (inc) 1 n i h w).cast (by rw [ey]))
  have HA : Hid (∀ w, Tab w → Gives Tryd.prog 18 #[] w (.bool true)) := Lib.hid awake_any
  clear p q m e a b z ht ex ey
  go_enter Tryd.func5, Tryd.ntmps5
  go_wp2_with fail
  refine Gives.cut (fun W1 => ClaimAt W1 w.heap.size n i h ∧ Below w.heap.size w W1) (HR.out _) ?hF ?_
  case hF =>
    intro x
    exact ⟨⟨by simp [go_sem], by simp [go_sem], by simp [go_sem], by simp [go_sem], by simp [go_sem], by simp [go_sem], by simp [go_sem]⟩, (by repeat (first | exact ext_refl _ | refine ext_alloc ?_ _ | refine ext_later ?_ _ | refine ext_drew ?_ | refine ext_drewN ?_ _ | refine ext_setCell ?_ _ _ (by first | assumption | (dsimp only; omega)) | assumption))⟩
  rintro W1 ⟨⟨a0, a1, a2, a3, _, _, _⟩, hb⟩
  have hne : w.heap.size ≠ W1.heap.size := by omega
  have hle : w.heap.size ≤ W1.heap.size := by omega
  go_wp2_with (first | (go_at_call 19; (first | (with_reducible refine Gives.on (HN.out _) ?_) | (with_reducible refine Gives.mono' (HN.out _) ?_)); intro x) | (go_at_call 12; (first | (with_reducible refine Gives.on (HM.out _) ?_) | (with_reducible refine Gives.mono' (HM.out _) ?_)); intro x) | (go_at_call 18; (first | (with_reducible refine Gives.on (HA.out _ (HT.out.later (by repeat (first | exact ext_refl _ | refine ext_alloc ?_ _ | refine ext_later ?_ _ | refine ext_drew ?_ | refine ext_drewN ?_ _ | refine ext_setCell ?_ _ _ (by first | assumption | (dsimp only; omega)) | assumption)))) ?_) | (with_reducible refine Gives.mono' (HA.out _ (HT.out.later (by repeat (first | exact ext_refl _ | refine ext_alloc ?_ _ | refine ext_later ?_ _ | refine ext_drew ?_ | refine ext_drewN ?_ _ | refine ext_setCell ?_ _ _ (by first | assumption | (dsimp only; omega)) | assumption)))) ?_)); intro x) | (go_at_call 9; (first | (with_reducible refine Gives.on (HR.out _) ?_) | (with_reducible refine Gives.mono' (HR.out _) ?_)); intro x) | (go_at_call 12; (first | (with_reducible refine Gives.on (HO.out _) ?_) | (with_reducible refine Gives.mono' (HO.out _) ?_)); intro x) | (go_at_call 14; (first | (with_reducible refine Gives.on (HX.out _) ?_) | (with_reducible refine Gives.mono' (HX.out _) ?_)); intro x) | (go_at_call 14; (first | (with_reducible refine Gives.on (HY.out _) ?_) | (with_reducible refine Gives.mono' (HY.out _) ?_)); intro x))
  all_goals (go_ret; exact ⟨by first | rfl | (simp; omega), Later.ex (by repeat (first | exact ext_refl _ | refine ext_alloc ?_ _ | refine ext_later ?_ _ | refine ext_drew ?_ | refine ext_drewN ?_ _ | refine ext_setCell ?_ _ _ (by first | assumption | (dsimp only; omega)) | assumption))⟩)

set_option maxHeartbeats 4000000 in
set_option maxRecDepth 100000 in
theorem refutes_alive (self inc n i h : Int) (p : (0 ≤ self ∧ self < 8)) (q : (0 ≤ inc ∧ inc ≤ 1000000)) (m : ((0 ≤ n ∧ n < 8) ∧ ((i = 0 ∧ h = 0) ∨ ((0 ≤ i ∧ i ≤ 1000000) ∧ 1 ≤ h ∧ h ≤ 4)))) (e : n = self) (a : h = 1) (b : cmpC inc 1 i h < 0) (w : World) (ht : Tab w) : Gives Tryd.prog 5 #[.int .i64 self, .int .i64 inc, .agg #[.int .i64 n, .int .i64 i, .int .i64 h]] w (.bool true) := by
  unfold Gives
  have HT := Lib.hid ht
  have HR : Hid (∀ w, Gives Tryd.prog 9 #[.int .i64 self, .int .i64 inc, .agg #[.int .i64 n, .int .i64 i, .int .i64 h]] w (.tuple #[.int .i64 inc, .int .i64 0])) := Lib.hid (fun w => (refute_any self inc n i h w).cast (by rw [(show refN self inc n i h = inc by unfold refN; rw [if_neg (fun z => z ⟨p, q, m⟩), if_pos (by omega)]), (show refE self inc n i h = 0 by unfold refE; rw [if_neg (fun z => z ⟨p, q, m⟩), if_pos (by omega)])]))
  try (first | (have HN : Hid (∀ w, Gives Tryd.prog 19 #[.int .i64 self] w (.bool true)) := Lib.hid (fun w => (refNode_any self w).cast (by rw [show nodeB self = true from by simp only [nodeB, decide_eq_true_eq]; omega]))) | (have HN : Hid (∀ w, Gives Tryd.prog 19 #[.int .i64 self] w (.bool false)) := Lib.hid (fun w => (refNode_any self w).cast (by rw [show nodeB self = false from by simp only [nodeB, decide_eq_false_iff_not]; omega]))))
  try (first | (have HM : Hid (∀ w, Gives Tryd.prog 12 #[.agg #[.int .i64 n, .int .i64 i, .int .i64 h]] w (.bool true)) := Lib.hid (fun w => (may_any n i h w).cast (by rw [show mayB n i h = true from by simp only [mayB, decide_eq_true_eq]; omega]))) | (have HM : Hid (∀ w, Gives Tryd.prog 12 #[.agg #[.int .i64 n, .int .i64 i, .int .i64 h]] w (.bool false)) := Lib.hid (fun w => (may_any n i h w).cast (by rw [show mayB n i h = false from by simp only [mayB, decide_eq_false_iff_not]; omega]))))
  first | (have l3 : 0 ≤ inc := by omega) | (have l3 : inc < 0 := by omega) | skip
  first | (have l4 : inc ≤ 1000000 := by omega) | (have l4 : 1000000 < inc := by omega) | skip
  first | (have l5 : 0 ≤ i := by omega) | (have l5 : i < 0 := by omega) | skip
  first | (have l6 : i ≤ 1000000 := by omega) | (have l6 : 1000000 < i := by omega) | skip
  try (first | (have e1 : ((n : Int) != self) = true := by first | exact beq_iff_eq.2 (by omega) | (rw [bne_iff_ne]; omega)) | (have e1 : ((n : Int) != self) = false := by first | exact beq_eq_false_iff_ne.2 (by omega) | exact bne_eq_false_iff_eq.2 (by omega)))
  try (first | (have e2 : ((h : Int) == 4) = true := by first | exact beq_iff_eq.2 (by omega) | (rw [bne_iff_ne]; omega)) | (have e2 : ((h : Int) == 4) = false := by first | exact beq_eq_false_iff_ne.2 (by omega) | exact bne_eq_false_iff_eq.2 (by omega)))
  try (first | (have e3 : ((h : Int) == 1) = true := by first | exact beq_iff_eq.2 (by omega) | (rw [bne_iff_ne]; omega)) | (have e3 : ((h : Int) == 1) = false := by first | exact beq_eq_false_iff_ne.2 (by omega) | exact bne_eq_false_iff_eq.2 (by omega)))
  try (first | (have e4 : ((i : Int) == 1000000) = true := by first | exact beq_iff_eq.2 (by omega) | (rw [bne_iff_ne]; omega)) | (have e4 : ((i : Int) == 1000000) = false := by first | exact beq_eq_false_iff_ne.2 (by omega) | exact bne_eq_false_iff_eq.2 (by omega)))
  have HO : Hid (∀ w, Gives Tryd.prog 12 #[.agg #[.int .i64 self, .int .i64 (inc), .int .i64 1]] w (.bool true)) := Lib.hid (fun w => (may_any self (inc) 1 w).cast (by rw [show mayB self (inc) 1 = true from by simp only [mayB, decide_eq_true_eq]; omega]))
  obtain ⟨x, ex⟩ : ∃ x, cmpC inc 1 i h = x := ⟨_, rfl⟩
  have HX : Hid (∀ w, Gives Tryd.prog 14 #[.agg #[.int .i64 self, .int .i64 inc, .int .i64 1], .agg #[.int .i64 n, .int .i64 i, .int .i64 h]] w (.int .i64 x)) := Lib.hid (fun w => (compare_any self inc 1 n i h w).cast (by rw [ex]))
  have hx : x < 0 := by rw [← ex]; exact b
  obtain ⟨y, ey⟩ : ∃ y, cmpC (inc) 1 i h = y := ⟨_, rfl⟩
  have HY : Hid (∀ w, Gives Tryd.prog 14 #[.agg #[.int .i64 self, .int .i64 (inc), .int .i64 1], .agg #[.int .i64 n, .int .i64 i, .int .i64 h]] w (.int .i64 y)) := Lib.hid (fun w => (compare_any self (inc) 1 n i h w).cast (by rw [ey]))
  have HA : Hid (∀ w, Tab w → Gives Tryd.prog 18 #[] w (.bool true)) := Lib.hid awake_any
  clear p q m e a b ht ex ey
  go_enter Tryd.func5, Tryd.ntmps5
  go_wp2_with fail
  refine Gives.cut (fun W1 => ClaimAt W1 w.heap.size n i h ∧ Below w.heap.size w W1) (HR.out _) ?hF ?_
  case hF =>
    intro x
    exact ⟨⟨by simp [go_sem], by simp [go_sem], by simp [go_sem], by simp [go_sem], by simp [go_sem], by simp [go_sem], by simp [go_sem]⟩, (by repeat (first | exact ext_refl _ | refine ext_alloc ?_ _ | refine ext_later ?_ _ | refine ext_drew ?_ | refine ext_drewN ?_ _ | refine ext_setCell ?_ _ _ (by first | assumption | (dsimp only; omega)) | assumption))⟩
  rintro W1 ⟨⟨a0, a1, a2, a3, _, _, _⟩, hb⟩
  have hne : w.heap.size ≠ W1.heap.size := by omega
  have hle : w.heap.size ≤ W1.heap.size := by omega
  go_wp2_with (first | (go_at_call 19; (first | (with_reducible refine Gives.on (HN.out _) ?_) | (with_reducible refine Gives.mono' (HN.out _) ?_)); intro x) | (go_at_call 12; (first | (with_reducible refine Gives.on (HM.out _) ?_) | (with_reducible refine Gives.mono' (HM.out _) ?_)); intro x) | (go_at_call 18; (first | (with_reducible refine Gives.on (HA.out _ (HT.out.later (by repeat (first | exact ext_refl _ | refine ext_alloc ?_ _ | refine ext_later ?_ _ | refine ext_drew ?_ | refine ext_drewN ?_ _ | refine ext_setCell ?_ _ _ (by first | assumption | (dsimp only; omega)) | assumption)))) ?_) | (with_reducible refine Gives.mono' (HA.out _ (HT.out.later (by repeat (first | exact ext_refl _ | refine ext_alloc ?_ _ | refine ext_later ?_ _ | refine ext_drew ?_ | refine ext_drewN ?_ _ | refine ext_setCell ?_ _ _ (by first | assumption | (dsimp only; omega)) | assumption)))) ?_)); intro x) | (go_at_call 9; (first | (with_reducible refine Gives.on (HR.out _) ?_) | (with_reducible refine Gives.mono' (HR.out _) ?_)); intro x) | (go_at_call 12; (first | (with_reducible refine Gives.on (HO.out _) ?_) | (with_reducible refine Gives.mono' (HO.out _) ?_)); intro x) | (go_at_call 14; (first | (with_reducible refine Gives.on (HX.out _) ?_) | (with_reducible refine Gives.mono' (HX.out _) ?_)); intro x) | (go_at_call 14; (first | (with_reducible refine Gives.on (HY.out _) ?_) | (with_reducible refine Gives.mono' (HY.out _) ?_)); intro x))
  all_goals (go_ret; exact ⟨by first | rfl | (simp; omega), Later.ex (by repeat (first | exact ext_refl _ | refine ext_alloc ?_ _ | refine ext_later ?_ _ | refine ext_drew ?_ | refine ext_drewN ?_ _ | refine ext_setCell ?_ _ _ (by first | assumption | (dsimp only; omega)) | assumption))⟩)

set_option maxHeartbeats 4000000 in
set_option maxRecDepth 100000 in
theorem refutes_doubt (self inc n i h : Int) (p : (0 ≤ self ∧ self < 8)) (q : (0 ≤ inc ∧ inc ≤ 1000000)) (m : ((0 ≤ n ∧ n < 8) ∧ ((i = 0 ∧ h = 0) ∨ ((0 ≤ i ∧ i ≤ 1000000) ∧ 1 ≤ h ∧ h ≤ 4)))) (e : n = self) (a : h = 2 ∨ h = 3) (b : cmpC inc 1 i h < 0) (z : inc ≤ i) (c : i < 1000000) (w : World) (ht : Tab w) : Gives Tryd.prog 5 #[.int .i64 self, .int .i64 inc, .agg #[.int .i64 n, .int .i64 i, .int .i64 h]] w (.bool true) := by
  unfold Gives
  have HT := Lib.hid ht
  have HR : Hid (∀ w, Gives Tryd.prog 9 #[.int .i64 self, .int .i64 inc, .agg #[.int .i64 n, .int .i64 i, .int .i64 h]] w (.tuple #[.int .i64 (i + 1), .int .i64 0])) := Lib.hid (fun w => (refute_any self inc n i h w).cast (by rw [(show refN self inc n i h = i + 1 by unfold refN; rw [if_neg (fun z => z ⟨p, q, m⟩), if_neg (by omega), if_neg (by omega)]), (show refE self inc n i h = 0 by unfold refE; rw [if_neg (fun z => z ⟨p, q, m⟩), if_neg (by omega), if_neg (by omega)])]))
  try (first | (have HN : Hid (∀ w, Gives Tryd.prog 19 #[.int .i64 self] w (.bool true)) := Lib.hid (fun w => (refNode_any self w).cast (by rw [show nodeB self = true from by simp only [nodeB, decide_eq_true_eq]; omega]))) | (have HN : Hid (∀ w, Gives Tryd.prog 19 #[.int .i64 self] w (.bool false)) := Lib.hid (fun w => (refNode_any self w).cast (by rw [show nodeB self = false from by simp only [nodeB, decide_eq_false_iff_not]; omega]))))
  try (first | (have HM : Hid (∀ w, Gives Tryd.prog 12 #[.agg #[.int .i64 n, .int .i64 i, .int .i64 h]] w (.bool true)) := Lib.hid (fun w => (may_any n i h w).cast (by rw [show mayB n i h = true from by simp only [mayB, decide_eq_true_eq]; omega]))) | (have HM : Hid (∀ w, Gives Tryd.prog 12 #[.agg #[.int .i64 n, .int .i64 i, .int .i64 h]] w (.bool false)) := Lib.hid (fun w => (may_any n i h w).cast (by rw [show mayB n i h = false from by simp only [mayB, decide_eq_false_iff_not]; omega]))))
  first | (have l3 : 0 ≤ inc := by omega) | (have l3 : inc < 0 := by omega) | skip
  first | (have l4 : inc ≤ 1000000 := by omega) | (have l4 : 1000000 < inc := by omega) | skip
  first | (have l5 : 0 ≤ i := by omega) | (have l5 : i < 0 := by omega) | skip
  first | (have l6 : i ≤ 1000000 := by omega) | (have l6 : 1000000 < i := by omega) | skip
  try (first | (have e1 : ((n : Int) != self) = true := by first | exact beq_iff_eq.2 (by omega) | (rw [bne_iff_ne]; omega)) | (have e1 : ((n : Int) != self) = false := by first | exact beq_eq_false_iff_ne.2 (by omega) | exact bne_eq_false_iff_eq.2 (by omega)))
  try (first | (have e2 : ((h : Int) == 4) = true := by first | exact beq_iff_eq.2 (by omega) | (rw [bne_iff_ne]; omega)) | (have e2 : ((h : Int) == 4) = false := by first | exact beq_eq_false_iff_ne.2 (by omega) | exact bne_eq_false_iff_eq.2 (by omega)))
  try (first | (have e3 : ((h : Int) == 1) = true := by first | exact beq_iff_eq.2 (by omega) | (rw [bne_iff_ne]; omega)) | (have e3 : ((h : Int) == 1) = false := by first | exact beq_eq_false_iff_ne.2 (by omega) | exact bne_eq_false_iff_eq.2 (by omega)))
  try (first | (have e4 : ((i : Int) == 1000000) = true := by first | exact beq_iff_eq.2 (by omega) | (rw [bne_iff_ne]; omega)) | (have e4 : ((i : Int) == 1000000) = false := by first | exact beq_eq_false_iff_ne.2 (by omega) | exact bne_eq_false_iff_eq.2 (by omega)))
  have HO : Hid (∀ w, Gives Tryd.prog 12 #[.agg #[.int .i64 self, .int .i64 (i + 1), .int .i64 1]] w (.bool true)) := Lib.hid (fun w => (may_any self (i + 1) 1 w).cast (by rw [show mayB self (i + 1) 1 = true from by simp only [mayB, decide_eq_true_eq]; omega]))
  obtain ⟨x, ex⟩ : ∃ x, cmpC inc 1 i h = x := ⟨_, rfl⟩
  have HX : Hid (∀ w, Gives Tryd.prog 14 #[.agg #[.int .i64 self, .int .i64 inc, .int .i64 1], .agg #[.int .i64 n, .int .i64 i, .int .i64 h]] w (.int .i64 x)) := Lib.hid (fun w => (compare_any self inc 1 n i h w).cast (by rw [ex]))
  have hx : x < 0 := by rw [← ex]; exact b
  obtain ⟨y, ey⟩ : ∃ y, cmpC (i + 1) 1 i h = y := ⟨_, rfl⟩
  have HY : Hid (∀ w, Gives Tryd.prog 14 #[.agg #[.int .i64 self, .int .i64 (i + 1), .int .i64 1], .agg #[.int .i64 n, .int .i64 i, .int .i64 h]] w (.int .i64 y)) := Lib.hid (fun w => (compare_any self (i + 1) 1 n i h w).cast (by rw [ey]))
  have hy : 0 < y := by rw [← ey, cmpC_spec]; rw [if_neg (by omega), if_neg (by omega), if_neg (by omega), if_pos (by omega)]; omega
  have ew : IntKind.i64.wrap (i + 1) = i + 1 := IntWalk.i64_in _ (by omega)
  have HA : Hid (∀ w, Tab w → Gives Tryd.prog 18 #[] w (.bool true)) := Lib.hid awake_any
  have l7 : inc ≤ i + 1 := by omega
  have l8 : i + 1 ≤ 1000000 := by omega
  clear p q m e a b z c ht ex ey
  go_enter Tryd.func5, Tryd.ntmps5
  go_wp2_with fail
  refine Gives.cut (fun W1 => ClaimAt W1 w.heap.size n i h ∧ Below w.heap.size w W1) (HR.out _) ?hF ?_
  case hF =>
    intro x
    exact ⟨⟨by simp [go_sem], by simp [go_sem], by simp [go_sem], by simp [go_sem], by simp [go_sem], by simp [go_sem], by simp [go_sem]⟩, (by repeat (first | exact ext_refl _ | refine ext_alloc ?_ _ | refine ext_later ?_ _ | refine ext_drew ?_ | refine ext_drewN ?_ _ | refine ext_setCell ?_ _ _ (by first | assumption | (dsimp only; omega)) | assumption))⟩
  rintro W1 ⟨⟨a0, a1, a2, a3, _, _, _⟩, hb⟩
  have hne : w.heap.size ≠ W1.heap.size := by omega
  have hle : w.heap.size ≤ W1.heap.size := by omega
  go_wp2_with (first | (go_at_call 19; (first | (with_reducible refine Gives.on (HN.out _) ?_) | (with_reducible refine Gives.mono' (HN.out _) ?_)); intro x) | (go_at_call 12; (first | (with_reducible refine Gives.on (HM.out _) ?_) | (with_reducible refine Gives.mono' (HM.out _) ?_)); intro x) | (go_at_call 18; (first | (with_reducible refine Gives.on (HA.out _ (HT.out.later (by repeat (first | exact ext_refl _ | refine ext_alloc ?_ _ | refine ext_later ?_ _ | refine ext_drew ?_ | refine ext_drewN ?_ _ | refine ext_setCell ?_ _ _ (by first | assumption | (dsimp only; omega)) | assumption)))) ?_) | (with_reducible refine Gives.mono' (HA.out _ (HT.out.later (by repeat (first | exact ext_refl _ | refine ext_alloc ?_ _ | refine ext_later ?_ _ | refine ext_drew ?_ | refine ext_drewN ?_ _ | refine ext_setCell ?_ _ _ (by first | assumption | (dsimp only; omega)) | assumption)))) ?_)); intro x) | (go_at_call 9; (first | (with_reducible refine Gives.on (HR.out _) ?_) | (with_reducible refine Gives.mono' (HR.out _) ?_)); intro x) | (go_at_call 12; (first | (with_reducible refine Gives.on (HO.out _) ?_) | (with_reducible refine Gives.mono' (HO.out _) ?_)); intro x) | (go_at_call 14; (first | (with_reducible refine Gives.on (HX.out _) ?_) | (with_reducible refine Gives.mono' (HX.out _) ?_)); intro x) | (go_at_call 14; (first | (with_reducible refine Gives.on (HY.out _) ?_) | (with_reducible refine Gives.mono' (HY.out _) ?_)); intro x))
  all_goals (go_ret; exact ⟨by first | rfl | (simp; omega), Later.ex (by repeat (first | exact ext_refl _ | refine ext_alloc ?_ _ | refine ext_later ?_ _ | refine ext_drew ?_ | refine ext_drewN ?_ _ | refine ext_setCell ?_ _ _ (by first | assumption | (dsimp only; omega)) | assumption))⟩)

theorem refutes_any (self inc n i h : Int) (w : World) (ht : Tab w) : Gives Tryd.prog 5 #[.int .i64 self, .int .i64 inc, .agg #[.int .i64 n, .int .i64 i, .int .i64 h]] w (.bool true) := by
  by_cases p : (0 ≤ self ∧ self < 8)
  · by_cases q : (0 ≤ inc ∧ inc ≤ 1000000)
    · by_cases m : ((0 ≤ n ∧ n < 8) ∧ ((i = 0 ∧ h = 0) ∨ ((0 ≤ i ∧ i ≤ 1000000) ∧ 1 ≤ h ∧ h ≤ 4)))
      · by_cases e : n = self
        · by_cases a : h = 4
          · exact refutes_left self inc n i h p q m e a w ht
          · by_cases z : i < inc ∨ (i = inc ∧ h ≤ 1)
            · refine refutes_lower self inc n i h p q m e a ?_ z w ht
              rw [cmpC_spec, if_neg (by omega), if_neg a]
              repeat' split
              all_goals omega
            · have b : cmpC inc 1 i h < 0 := by rw [cmpC_lt]; omega
              by_cases a1 : h = 1
              · exact refutes_alive self inc n i h p q m e a1 b w ht
              · have a2 : h = 2 ∨ h = 3 := by omega
                by_cases c : i = 1000000
                · exact refutes_over self inc n i h p q m e a2 (by omega) c w ht
                · exact refutes_doubt self inc n i h p q m e a2 b (by omega) (by omega) w ht
        · exact refutes_other self inc n i h p q m e w ht
      · exact refutes_bad3 self inc n i h p q m w ht
    · by_cases q1 : inc < 0
      · exact refutes_bad1 self inc n i h p q1 w ht
      · exact refutes_bad2 self inc n i h p (by omega) w ht
  · exact refutes_bad0 self inc n i h p w ht
end Go.Proofs.YtbdhnmjmbbahhaaDoor
