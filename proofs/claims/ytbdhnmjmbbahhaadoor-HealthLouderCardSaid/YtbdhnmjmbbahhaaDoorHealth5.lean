/- Refutations, the louder claim, and the claims that every program must know: what each function gives. -/
import Derived.Test.YtbdhnmjmbbahhaaDoorHealth4
namespace Go.Proofs.YtbdhnmjmbbahhaaDoor
open Go Go.RowKit

def refN (self inc n i h : Int) : Int := if ¬ ((0 ≤ self ∧ self < 8) ∧ (0 ≤ inc ∧ inc ≤ 1000000) ∧ ((0 ≤ n ∧ n < 8) ∧ ((i = 0 ∧ h = 0) ∨ ((0 ≤ i ∧ i ≤ 1000000) ∧ 1 ≤ h ∧ h ≤ 4)))) then 0 else if n ≠ self ∨ ¬ (h = 2 ∨ h = 3) ∨ i < inc then inc else if 1000000 ≤ i then inc else i + 1
def refE (self inc n i h : Int) : Int := if ¬ ((0 ≤ self ∧ self < 8) ∧ (0 ≤ inc ∧ inc ≤ 1000000) ∧ ((0 ≤ n ∧ n < 8) ∧ ((i = 0 ∧ h = 0) ∨ ((0 ≤ i ∧ i ≤ 1000000) ∧ 1 ≤ h ∧ h ≤ 4)))) then 1 else if n ≠ self ∨ ¬ (h = 2 ∨ h = 3) ∨ i < inc then 0 else if 1000000 ≤ i then 6 else 0

set_option maxHeartbeats 400000 in
theorem refute_any_0 (self inc n i h : Int) (p : ¬ (0 ≤ self ∧ self < 8)) (w : World) : Gives Tryd.prog 9 #[.int .i64 self, .int .i64 inc, .agg #[.int .i64 n, .int .i64 i, .int .i64 h]] w (.tuple #[.int .i64 (refN self inc n i h), .int .i64 (refE self inc n i h)]) := by
  unfold Gives
  all_goals have HH : Hid (refN self inc n i h = 0 ∧ refE self inc n i h = 1) := Lib.hid (by unfold refN refE; constructor <;> rw [if_pos (fun z => p z.1)])
  all_goals try (first | (have HN : Hid (∀ w, Gives Tryd.prog 20 #[.int .i64 self] w (.bool true)) := Lib.hid (fun w => (isNode_any self w).cast (by rw [show nodeB self = true from by simp only [nodeB, decide_eq_true_eq]; omega]))) | (have HN : Hid (∀ w, Gives Tryd.prog 20 #[.int .i64 self] w (.bool false)) := Lib.hid (fun w => (isNode_any self w).cast (by rw [show nodeB self = false from by simp only [nodeB, decide_eq_false_iff_not]; omega]))))
  all_goals try (first | (have HI : Hid (∀ w, Gives Tryd.prog 21 #[.int .i64 inc] w (.bool true)) := Lib.hid (fun w => (isInc_any inc w).cast (by rw [show incB inc = true from by simp only [incB, decide_eq_true_eq]; omega]))) | (have HI : Hid (∀ w, Gives Tryd.prog 21 #[.int .i64 inc] w (.bool false)) := Lib.hid (fun w => (isInc_any inc w).cast (by rw [show incB inc = false from by simp only [incB, decide_eq_false_iff_not]; omega]))))
  all_goals try (first | (have HM : Hid (∀ w, Gives Tryd.prog 12 #[.agg #[.int .i64 n, .int .i64 i, .int .i64 h]] w (.bool true)) := Lib.hid (fun w => (may_any n i h w).cast (by rw [show mayB n i h = true from by simp only [mayB, decide_eq_true_eq]; omega]))) | (have HM : Hid (∀ w, Gives Tryd.prog 12 #[.agg #[.int .i64 n, .int .i64 i, .int .i64 h]] w (.bool false)) := Lib.hid (fun w => (may_any n i h w).cast (by rw [show mayB n i h = false from by simp only [mayB, decide_eq_false_iff_not]; omega]))))
  all_goals try (first | (have e1 : ((n : Int) != self) = true := by first | exact beq_iff_eq.2 (by omega) | (rw [bne_iff_ne]; omega)) | (have e1 : ((n : Int) != self) = false := by first | exact beq_eq_false_iff_ne.2 (by omega) | exact bne_eq_false_iff_eq.2 (by omega)))
  all_goals try (first | (have HA : Hid (∀ w, Gives Tryd.prog 22 #[.agg #[.int .i64 n, .int .i64 i, .int .i64 h]] w (.bool true)) := Lib.hid (fun w => (accuses_any n i h w).cast (by rw [show accB h = true from by simp only [accB, decide_eq_true_eq]; omega]))) | (have HA : Hid (∀ w, Gives Tryd.prog 22 #[.agg #[.int .i64 n, .int .i64 i, .int .i64 h]] w (.bool false)) := Lib.hid (fun w => (accuses_any n i h w).cast (by rw [show accB h = false from by simp only [accB, decide_eq_false_iff_not]; omega]))))
  all_goals first | (have l1 : inc ≤ i := by omega) | (have l1 : i < inc := by omega) | skip
  all_goals first | (have l2 : 1000000 ≤ i := by omega) | (have l2 : i < 1000000 := by omega) | skip
  all_goals first | (have l5 : 0 ≤ i := by omega) | skip
  all_goals clear p
  all_goals
    go_enter Tryd.func9, Tryd.ntmps9
    go_wp2_with (first | (go_at_call 20; (first | (with_reducible refine Gives.on (HN.out _) ?_) | (refine Gives.mono' (HN.out _) ?_)); intro x) | (go_at_call 21; (first | (with_reducible refine Gives.on (HI.out _) ?_) | (refine Gives.mono' (HI.out _) ?_)); intro x) | (go_at_call 12; (first | (with_reducible refine Gives.on (HM.out _) ?_) | (refine Gives.mono' (HM.out _) ?_)); intro x) | (go_at_call 22; (first | (with_reducible refine Gives.on (HA.out _) ?_) | (refine Gives.mono' (HA.out _) ?_)); intro x))
    all_goals (go_ret2; exact ⟨by rw [HH.out.1, HH.out.2]; first | rfl | (simp [go_sem]; omega), Later.ex (by repeat (first | exact ext_refl _ | refine ext_alloc ?_ _ | refine ext_later ?_ _ | refine ext_drew ?_ | refine ext_drewN ?_ _))⟩)

set_option maxHeartbeats 400000 in
theorem refute_any_1 (self inc n i h : Int) (p : (0 ≤ self ∧ self < 8)) (q : ¬ (0 ≤ inc ∧ inc ≤ 1000000)) (w : World) : Gives Tryd.prog 9 #[.int .i64 self, .int .i64 inc, .agg #[.int .i64 n, .int .i64 i, .int .i64 h]] w (.tuple #[.int .i64 (refN self inc n i h), .int .i64 (refE self inc n i h)]) := by
  unfold Gives
  all_goals have HH : Hid (refN self inc n i h = 0 ∧ refE self inc n i h = 1) := Lib.hid (by unfold refN refE; constructor <;> rw [if_pos (fun z => q z.2.1)])
  all_goals try (first | (have HN : Hid (∀ w, Gives Tryd.prog 20 #[.int .i64 self] w (.bool true)) := Lib.hid (fun w => (isNode_any self w).cast (by rw [show nodeB self = true from by simp only [nodeB, decide_eq_true_eq]; omega]))) | (have HN : Hid (∀ w, Gives Tryd.prog 20 #[.int .i64 self] w (.bool false)) := Lib.hid (fun w => (isNode_any self w).cast (by rw [show nodeB self = false from by simp only [nodeB, decide_eq_false_iff_not]; omega]))))
  all_goals try (first | (have HI : Hid (∀ w, Gives Tryd.prog 21 #[.int .i64 inc] w (.bool true)) := Lib.hid (fun w => (isInc_any inc w).cast (by rw [show incB inc = true from by simp only [incB, decide_eq_true_eq]; omega]))) | (have HI : Hid (∀ w, Gives Tryd.prog 21 #[.int .i64 inc] w (.bool false)) := Lib.hid (fun w => (isInc_any inc w).cast (by rw [show incB inc = false from by simp only [incB, decide_eq_false_iff_not]; omega]))))
  all_goals try (first | (have HM : Hid (∀ w, Gives Tryd.prog 12 #[.agg #[.int .i64 n, .int .i64 i, .int .i64 h]] w (.bool true)) := Lib.hid (fun w => (may_any n i h w).cast (by rw [show mayB n i h = true from by simp only [mayB, decide_eq_true_eq]; omega]))) | (have HM : Hid (∀ w, Gives Tryd.prog 12 #[.agg #[.int .i64 n, .int .i64 i, .int .i64 h]] w (.bool false)) := Lib.hid (fun w => (may_any n i h w).cast (by rw [show mayB n i h = false from by simp only [mayB, decide_eq_false_iff_not]; omega]))))
  all_goals try (first | (have e1 : ((n : Int) != self) = true := by first | exact beq_iff_eq.2 (by omega) | (rw [bne_iff_ne]; omega)) | (have e1 : ((n : Int) != self) = false := by first | exact beq_eq_false_iff_ne.2 (by omega) | exact bne_eq_false_iff_eq.2 (by omega)))
  all_goals try (first | (have HA : Hid (∀ w, Gives Tryd.prog 22 #[.agg #[.int .i64 n, .int .i64 i, .int .i64 h]] w (.bool true)) := Lib.hid (fun w => (accuses_any n i h w).cast (by rw [show accB h = true from by simp only [accB, decide_eq_true_eq]; omega]))) | (have HA : Hid (∀ w, Gives Tryd.prog 22 #[.agg #[.int .i64 n, .int .i64 i, .int .i64 h]] w (.bool false)) := Lib.hid (fun w => (accuses_any n i h w).cast (by rw [show accB h = false from by simp only [accB, decide_eq_false_iff_not]; omega]))))
  all_goals first | (have l1 : inc ≤ i := by omega) | (have l1 : i < inc := by omega) | skip
  all_goals first | (have l2 : 1000000 ≤ i := by omega) | (have l2 : i < 1000000 := by omega) | skip
  all_goals first | (have l5 : 0 ≤ i := by omega) | skip
  all_goals clear p q
  all_goals
    go_enter Tryd.func9, Tryd.ntmps9
    go_wp2_with (first | (go_at_call 20; (first | (with_reducible refine Gives.on (HN.out _) ?_) | (refine Gives.mono' (HN.out _) ?_)); intro x) | (go_at_call 21; (first | (with_reducible refine Gives.on (HI.out _) ?_) | (refine Gives.mono' (HI.out _) ?_)); intro x) | (go_at_call 12; (first | (with_reducible refine Gives.on (HM.out _) ?_) | (refine Gives.mono' (HM.out _) ?_)); intro x) | (go_at_call 22; (first | (with_reducible refine Gives.on (HA.out _) ?_) | (refine Gives.mono' (HA.out _) ?_)); intro x))
    all_goals (go_ret2; exact ⟨by rw [HH.out.1, HH.out.2]; first | rfl | (simp [go_sem]; omega), Later.ex (by repeat (first | exact ext_refl _ | refine ext_alloc ?_ _ | refine ext_later ?_ _ | refine ext_drew ?_ | refine ext_drewN ?_ _))⟩)

set_option maxHeartbeats 400000 in
theorem refute_any_2 (self inc n i h : Int) (p : (0 ≤ self ∧ self < 8)) (q : (0 ≤ inc ∧ inc ≤ 1000000)) (m : ¬ ((0 ≤ n ∧ n < 8) ∧ ((i = 0 ∧ h = 0) ∨ ((0 ≤ i ∧ i ≤ 1000000) ∧ 1 ≤ h ∧ h ≤ 4)))) (w : World) : Gives Tryd.prog 9 #[.int .i64 self, .int .i64 inc, .agg #[.int .i64 n, .int .i64 i, .int .i64 h]] w (.tuple #[.int .i64 (refN self inc n i h), .int .i64 (refE self inc n i h)]) := by
  unfold Gives
  all_goals have HH : Hid (refN self inc n i h = 0 ∧ refE self inc n i h = 1) := Lib.hid (by unfold refN refE; constructor <;> rw [if_pos (fun z => m z.2.2)])
  all_goals try (first | (have HN : Hid (∀ w, Gives Tryd.prog 20 #[.int .i64 self] w (.bool true)) := Lib.hid (fun w => (isNode_any self w).cast (by rw [show nodeB self = true from by simp only [nodeB, decide_eq_true_eq]; omega]))) | (have HN : Hid (∀ w, Gives Tryd.prog 20 #[.int .i64 self] w (.bool false)) := Lib.hid (fun w => (isNode_any self w).cast (by rw [show nodeB self = false from by simp only [nodeB, decide_eq_false_iff_not]; omega]))))
  all_goals try (first | (have HI : Hid (∀ w, Gives Tryd.prog 21 #[.int .i64 inc] w (.bool true)) := Lib.hid (fun w => (isInc_any inc w).cast (by rw [show incB inc = true from by simp only [incB, decide_eq_true_eq]; omega]))) | (have HI : Hid (∀ w, Gives Tryd.prog 21 #[.int .i64 inc] w (.bool false)) := Lib.hid (fun w => (isInc_any inc w).cast (by rw [show incB inc = false from by simp only [incB, decide_eq_false_iff_not]; omega]))))
  all_goals try (first | (have HM : Hid (∀ w, Gives Tryd.prog 12 #[.agg #[.int .i64 n, .int .i64 i, .int .i64 h]] w (.bool true)) := Lib.hid (fun w => (may_any n i h w).cast (by rw [show mayB n i h = true from by simp only [mayB, decide_eq_true_eq]; omega]))) | (have HM : Hid (∀ w, Gives Tryd.prog 12 #[.agg #[.int .i64 n, .int .i64 i, .int .i64 h]] w (.bool false)) := Lib.hid (fun w => (may_any n i h w).cast (by rw [show mayB n i h = false from by simp only [mayB, decide_eq_false_iff_not]; omega]))))
  all_goals try (first | (have e1 : ((n : Int) != self) = true := by first | exact beq_iff_eq.2 (by omega) | (rw [bne_iff_ne]; omega)) | (have e1 : ((n : Int) != self) = false := by first | exact beq_eq_false_iff_ne.2 (by omega) | exact bne_eq_false_iff_eq.2 (by omega)))
  all_goals try (first | (have HA : Hid (∀ w, Gives Tryd.prog 22 #[.agg #[.int .i64 n, .int .i64 i, .int .i64 h]] w (.bool true)) := Lib.hid (fun w => (accuses_any n i h w).cast (by rw [show accB h = true from by simp only [accB, decide_eq_true_eq]; omega]))) | (have HA : Hid (∀ w, Gives Tryd.prog 22 #[.agg #[.int .i64 n, .int .i64 i, .int .i64 h]] w (.bool false)) := Lib.hid (fun w => (accuses_any n i h w).cast (by rw [show accB h = false from by simp only [accB, decide_eq_false_iff_not]; omega]))))
  all_goals first | (have l1 : inc ≤ i := by omega) | (have l1 : i < inc := by omega) | skip
  all_goals first | (have l2 : 1000000 ≤ i := by omega) | (have l2 : i < 1000000 := by omega) | skip
  all_goals first | (have l5 : 0 ≤ i := by omega) | skip
  all_goals clear p q m
  all_goals
    go_enter Tryd.func9, Tryd.ntmps9
    go_wp2_with (first | (go_at_call 20; (first | (with_reducible refine Gives.on (HN.out _) ?_) | (refine Gives.mono' (HN.out _) ?_)); intro x) | (go_at_call 21; (first | (with_reducible refine Gives.on (HI.out _) ?_) | (refine Gives.mono' (HI.out _) ?_)); intro x) | (go_at_call 12; (first | (with_reducible refine Gives.on (HM.out _) ?_) | (refine Gives.mono' (HM.out _) ?_)); intro x) | (go_at_call 22; (first | (with_reducible refine Gives.on (HA.out _) ?_) | (refine Gives.mono' (HA.out _) ?_)); intro x))
    all_goals (go_ret2; exact ⟨by rw [HH.out.1, HH.out.2]; first | rfl | (simp [go_sem]; omega), Later.ex (by repeat (first | exact ext_refl _ | refine ext_alloc ?_ _ | refine ext_later ?_ _ | refine ext_drew ?_ | refine ext_drewN ?_ _))⟩)

set_option maxHeartbeats 400000 in
theorem refute_any_3 (self inc n i h : Int) (p : (0 ≤ self ∧ self < 8)) (q : (0 ≤ inc ∧ inc ≤ 1000000)) (m : ((0 ≤ n ∧ n < 8) ∧ ((i = 0 ∧ h = 0) ∨ ((0 ≤ i ∧ i ≤ 1000000) ∧ 1 ≤ h ∧ h ≤ 4)))) (e : n ≠ self) (w : World) : Gives Tryd.prog 9 #[.int .i64 self, .int .i64 inc, .agg #[.int .i64 n, .int .i64 i, .int .i64 h]] w (.tuple #[.int .i64 (refN self inc n i h), .int .i64 (refE self inc n i h)]) := by
  unfold Gives
  all_goals have HH : Hid (refN self inc n i h = inc ∧ refE self inc n i h = 0) := Lib.hid (by unfold refN refE; constructor <;> rw [if_neg (fun z => z ⟨p, q, m⟩), if_pos (Or.inl e)])
  all_goals try (first | (have HN : Hid (∀ w, Gives Tryd.prog 20 #[.int .i64 self] w (.bool true)) := Lib.hid (fun w => (isNode_any self w).cast (by rw [show nodeB self = true from by simp only [nodeB, decide_eq_true_eq]; omega]))) | (have HN : Hid (∀ w, Gives Tryd.prog 20 #[.int .i64 self] w (.bool false)) := Lib.hid (fun w => (isNode_any self w).cast (by rw [show nodeB self = false from by simp only [nodeB, decide_eq_false_iff_not]; omega]))))
  all_goals try (first | (have HI : Hid (∀ w, Gives Tryd.prog 21 #[.int .i64 inc] w (.bool true)) := Lib.hid (fun w => (isInc_any inc w).cast (by rw [show incB inc = true from by simp only [incB, decide_eq_true_eq]; omega]))) | (have HI : Hid (∀ w, Gives Tryd.prog 21 #[.int .i64 inc] w (.bool false)) := Lib.hid (fun w => (isInc_any inc w).cast (by rw [show incB inc = false from by simp only [incB, decide_eq_false_iff_not]; omega]))))
  all_goals try (first | (have HM : Hid (∀ w, Gives Tryd.prog 12 #[.agg #[.int .i64 n, .int .i64 i, .int .i64 h]] w (.bool true)) := Lib.hid (fun w => (may_any n i h w).cast (by rw [show mayB n i h = true from by simp only [mayB, decide_eq_true_eq]; omega]))) | (have HM : Hid (∀ w, Gives Tryd.prog 12 #[.agg #[.int .i64 n, .int .i64 i, .int .i64 h]] w (.bool false)) := Lib.hid (fun w => (may_any n i h w).cast (by rw [show mayB n i h = false from by simp only [mayB, decide_eq_false_iff_not]; omega]))))
  all_goals try (first | (have e1 : ((n : Int) != self) = true := by first | exact beq_iff_eq.2 (by omega) | (rw [bne_iff_ne]; omega)) | (have e1 : ((n : Int) != self) = false := by first | exact beq_eq_false_iff_ne.2 (by omega) | exact bne_eq_false_iff_eq.2 (by omega)))
  all_goals try (first | (have HA : Hid (∀ w, Gives Tryd.prog 22 #[.agg #[.int .i64 n, .int .i64 i, .int .i64 h]] w (.bool true)) := Lib.hid (fun w => (accuses_any n i h w).cast (by rw [show accB h = true from by simp only [accB, decide_eq_true_eq]; omega]))) | (have HA : Hid (∀ w, Gives Tryd.prog 22 #[.agg #[.int .i64 n, .int .i64 i, .int .i64 h]] w (.bool false)) := Lib.hid (fun w => (accuses_any n i h w).cast (by rw [show accB h = false from by simp only [accB, decide_eq_false_iff_not]; omega]))))
  all_goals first | (have l1 : inc ≤ i := by omega) | (have l1 : i < inc := by omega) | skip
  all_goals first | (have l2 : 1000000 ≤ i := by omega) | (have l2 : i < 1000000 := by omega) | skip
  all_goals first | (have l5 : 0 ≤ i := by omega) | skip
  all_goals clear p q m e
  all_goals
    go_enter Tryd.func9, Tryd.ntmps9
    go_wp2_with (first | (go_at_call 20; (first | (with_reducible refine Gives.on (HN.out _) ?_) | (refine Gives.mono' (HN.out _) ?_)); intro x) | (go_at_call 21; (first | (with_reducible refine Gives.on (HI.out _) ?_) | (refine Gives.mono' (HI.out _) ?_)); intro x) | (go_at_call 12; (first | (with_reducible refine Gives.on (HM.out _) ?_) | (refine Gives.mono' (HM.out _) ?_)); intro x) | (go_at_call 22; (first | (with_reducible refine Gives.on (HA.out _) ?_) | (refine Gives.mono' (HA.out _) ?_)); intro x))
    all_goals (go_ret2; exact ⟨by rw [HH.out.1, HH.out.2]; first | rfl | (simp [go_sem]; omega), Later.ex (by repeat (first | exact ext_refl _ | refine ext_alloc ?_ _ | refine ext_later ?_ _ | refine ext_drew ?_ | refine ext_drewN ?_ _))⟩)

set_option maxHeartbeats 400000 in
theorem refute_any_4 (self inc n i h : Int) (p : (0 ≤ self ∧ self < 8)) (q : (0 ≤ inc ∧ inc ≤ 1000000)) (m : ((0 ≤ n ∧ n < 8) ∧ ((i = 0 ∧ h = 0) ∨ ((0 ≤ i ∧ i ≤ 1000000) ∧ 1 ≤ h ∧ h ≤ 4)))) (e : n = self) (a : ¬ (h = 2 ∨ h = 3)) (w : World) : Gives Tryd.prog 9 #[.int .i64 self, .int .i64 inc, .agg #[.int .i64 n, .int .i64 i, .int .i64 h]] w (.tuple #[.int .i64 (refN self inc n i h), .int .i64 (refE self inc n i h)]) := by
  unfold Gives
  all_goals have HH : Hid (refN self inc n i h = inc ∧ refE self inc n i h = 0) := Lib.hid (by unfold refN refE; constructor <;> rw [if_neg (fun z => z ⟨p, q, m⟩), if_pos (Or.inr (Or.inl a))])
  all_goals try (first | (have HN : Hid (∀ w, Gives Tryd.prog 20 #[.int .i64 self] w (.bool true)) := Lib.hid (fun w => (isNode_any self w).cast (by rw [show nodeB self = true from by simp only [nodeB, decide_eq_true_eq]; omega]))) | (have HN : Hid (∀ w, Gives Tryd.prog 20 #[.int .i64 self] w (.bool false)) := Lib.hid (fun w => (isNode_any self w).cast (by rw [show nodeB self = false from by simp only [nodeB, decide_eq_false_iff_not]; omega]))))
  all_goals try (first | (have HI : Hid (∀ w, Gives Tryd.prog 21 #[.int .i64 inc] w (.bool true)) := Lib.hid (fun w => (isInc_any inc w).cast (by rw [show incB inc = true from by simp only [incB, decide_eq_true_eq]; omega]))) | (have HI : Hid (∀ w, Gives Tryd.prog 21 #[.int .i64 inc] w (.bool false)) := Lib.hid (fun w => (isInc_any inc w).cast (by rw [show incB inc = false from by simp only [incB, decide_eq_false_iff_not]; omega]))))
  all_goals try (first | (have HM : Hid (∀ w, Gives Tryd.prog 12 #[.agg #[.int .i64 n, .int .i64 i, .int .i64 h]] w (.bool true)) := Lib.hid (fun w => (may_any n i h w).cast (by rw [show mayB n i h = true from by simp only [mayB, decide_eq_true_eq]; omega]))) | (have HM : Hid (∀ w, Gives Tryd.prog 12 #[.agg #[.int .i64 n, .int .i64 i, .int .i64 h]] w (.bool false)) := Lib.hid (fun w => (may_any n i h w).cast (by rw [show mayB n i h = false from by simp only [mayB, decide_eq_false_iff_not]; omega]))))
  all_goals try (first | (have e1 : ((n : Int) != self) = true := by first | exact beq_iff_eq.2 (by omega) | (rw [bne_iff_ne]; omega)) | (have e1 : ((n : Int) != self) = false := by first | exact beq_eq_false_iff_ne.2 (by omega) | exact bne_eq_false_iff_eq.2 (by omega)))
  all_goals try (first | (have HA : Hid (∀ w, Gives Tryd.prog 22 #[.agg #[.int .i64 n, .int .i64 i, .int .i64 h]] w (.bool true)) := Lib.hid (fun w => (accuses_any n i h w).cast (by rw [show accB h = true from by simp only [accB, decide_eq_true_eq]; omega]))) | (have HA : Hid (∀ w, Gives Tryd.prog 22 #[.agg #[.int .i64 n, .int .i64 i, .int .i64 h]] w (.bool false)) := Lib.hid (fun w => (accuses_any n i h w).cast (by rw [show accB h = false from by simp only [accB, decide_eq_false_iff_not]; omega]))))
  all_goals first | (have l1 : inc ≤ i := by omega) | (have l1 : i < inc := by omega) | skip
  all_goals first | (have l2 : 1000000 ≤ i := by omega) | (have l2 : i < 1000000 := by omega) | skip
  all_goals first | (have l5 : 0 ≤ i := by omega) | skip
  all_goals clear p q m e a
  all_goals
    go_enter Tryd.func9, Tryd.ntmps9
    go_wp2_with (first | (go_at_call 20; (first | (with_reducible refine Gives.on (HN.out _) ?_) | (refine Gives.mono' (HN.out _) ?_)); intro x) | (go_at_call 21; (first | (with_reducible refine Gives.on (HI.out _) ?_) | (refine Gives.mono' (HI.out _) ?_)); intro x) | (go_at_call 12; (first | (with_reducible refine Gives.on (HM.out _) ?_) | (refine Gives.mono' (HM.out _) ?_)); intro x) | (go_at_call 22; (first | (with_reducible refine Gives.on (HA.out _) ?_) | (refine Gives.mono' (HA.out _) ?_)); intro x))
    all_goals (go_ret2; exact ⟨by rw [HH.out.1, HH.out.2]; first | rfl | (simp [go_sem]; omega), Later.ex (by repeat (first | exact ext_refl _ | refine ext_alloc ?_ _ | refine ext_later ?_ _ | refine ext_drew ?_ | refine ext_drewN ?_ _))⟩)

set_option maxHeartbeats 400000 in
theorem refute_any_5 (self inc n i h : Int) (p : (0 ≤ self ∧ self < 8)) (q : (0 ≤ inc ∧ inc ≤ 1000000)) (m : ((0 ≤ n ∧ n < 8) ∧ ((i = 0 ∧ h = 0) ∨ ((0 ≤ i ∧ i ≤ 1000000) ∧ 1 ≤ h ∧ h ≤ 4)))) (e : n = self) (a : h = 2 ∨ h = 3) (b : i < inc) (w : World) : Gives Tryd.prog 9 #[.int .i64 self, .int .i64 inc, .agg #[.int .i64 n, .int .i64 i, .int .i64 h]] w (.tuple #[.int .i64 (refN self inc n i h), .int .i64 (refE self inc n i h)]) := by
  unfold Gives
  all_goals have HH : Hid (refN self inc n i h = inc ∧ refE self inc n i h = 0) := Lib.hid (by unfold refN refE; constructor <;> rw [if_neg (fun z => z ⟨p, q, m⟩), if_pos (Or.inr (Or.inr b))])
  all_goals try (first | (have HN : Hid (∀ w, Gives Tryd.prog 20 #[.int .i64 self] w (.bool true)) := Lib.hid (fun w => (isNode_any self w).cast (by rw [show nodeB self = true from by simp only [nodeB, decide_eq_true_eq]; omega]))) | (have HN : Hid (∀ w, Gives Tryd.prog 20 #[.int .i64 self] w (.bool false)) := Lib.hid (fun w => (isNode_any self w).cast (by rw [show nodeB self = false from by simp only [nodeB, decide_eq_false_iff_not]; omega]))))
  all_goals try (first | (have HI : Hid (∀ w, Gives Tryd.prog 21 #[.int .i64 inc] w (.bool true)) := Lib.hid (fun w => (isInc_any inc w).cast (by rw [show incB inc = true from by simp only [incB, decide_eq_true_eq]; omega]))) | (have HI : Hid (∀ w, Gives Tryd.prog 21 #[.int .i64 inc] w (.bool false)) := Lib.hid (fun w => (isInc_any inc w).cast (by rw [show incB inc = false from by simp only [incB, decide_eq_false_iff_not]; omega]))))
  all_goals try (first | (have HM : Hid (∀ w, Gives Tryd.prog 12 #[.agg #[.int .i64 n, .int .i64 i, .int .i64 h]] w (.bool true)) := Lib.hid (fun w => (may_any n i h w).cast (by rw [show mayB n i h = true from by simp only [mayB, decide_eq_true_eq]; omega]))) | (have HM : Hid (∀ w, Gives Tryd.prog 12 #[.agg #[.int .i64 n, .int .i64 i, .int .i64 h]] w (.bool false)) := Lib.hid (fun w => (may_any n i h w).cast (by rw [show mayB n i h = false from by simp only [mayB, decide_eq_false_iff_not]; omega]))))
  all_goals try (first | (have e1 : ((n : Int) != self) = true := by first | exact beq_iff_eq.2 (by omega) | (rw [bne_iff_ne]; omega)) | (have e1 : ((n : Int) != self) = false := by first | exact beq_eq_false_iff_ne.2 (by omega) | exact bne_eq_false_iff_eq.2 (by omega)))
  all_goals try (first | (have HA : Hid (∀ w, Gives Tryd.prog 22 #[.agg #[.int .i64 n, .int .i64 i, .int .i64 h]] w (.bool true)) := Lib.hid (fun w => (accuses_any n i h w).cast (by rw [show accB h = true from by simp only [accB, decide_eq_true_eq]; omega]))) | (have HA : Hid (∀ w, Gives Tryd.prog 22 #[.agg #[.int .i64 n, .int .i64 i, .int .i64 h]] w (.bool false)) := Lib.hid (fun w => (accuses_any n i h w).cast (by rw [show accB h = false from by simp only [accB, decide_eq_false_iff_not]; omega]))))
  all_goals first | (have l1 : inc ≤ i := by omega) | (have l1 : i < inc := by omega) | skip
  all_goals first | (have l2 : 1000000 ≤ i := by omega) | (have l2 : i < 1000000 := by omega) | skip
  all_goals first | (have l5 : 0 ≤ i := by omega) | skip
  all_goals clear p q m e a b
  all_goals
    go_enter Tryd.func9, Tryd.ntmps9
    go_wp2_with (first | (go_at_call 20; (first | (with_reducible refine Gives.on (HN.out _) ?_) | (refine Gives.mono' (HN.out _) ?_)); intro x) | (go_at_call 21; (first | (with_reducible refine Gives.on (HI.out _) ?_) | (refine Gives.mono' (HI.out _) ?_)); intro x) | (go_at_call 12; (first | (with_reducible refine Gives.on (HM.out _) ?_) | (refine Gives.mono' (HM.out _) ?_)); intro x) | (go_at_call 22; (first | (with_reducible refine Gives.on (HA.out _) ?_) | (refine Gives.mono' (HA.out _) ?_)); intro x))
    all_goals (go_ret2; exact ⟨by rw [HH.out.1, HH.out.2]; first | rfl | (simp [go_sem]; omega), Later.ex (by repeat (first | exact ext_refl _ | refine ext_alloc ?_ _ | refine ext_later ?_ _ | refine ext_drew ?_ | refine ext_drewN ?_ _))⟩)

set_option maxHeartbeats 400000 in
theorem refute_any_6 (self inc n i h : Int) (p : (0 ≤ self ∧ self < 8)) (q : (0 ≤ inc ∧ inc ≤ 1000000)) (m : ((0 ≤ n ∧ n < 8) ∧ ((i = 0 ∧ h = 0) ∨ ((0 ≤ i ∧ i ≤ 1000000) ∧ 1 ≤ h ∧ h ≤ 4)))) (e : n = self) (a : h = 2 ∨ h = 3) (b : ¬ i < inc) (c : 1000000 ≤ i) (w : World) : Gives Tryd.prog 9 #[.int .i64 self, .int .i64 inc, .agg #[.int .i64 n, .int .i64 i, .int .i64 h]] w (.tuple #[.int .i64 (refN self inc n i h), .int .i64 (refE self inc n i h)]) := by
  unfold Gives
  all_goals have HH : Hid (refN self inc n i h = inc ∧ refE self inc n i h = 6) := Lib.hid (by unfold refN refE; constructor <;> rw [if_neg (fun z => z ⟨p, q, m⟩), if_neg (by omega), if_pos c])
  all_goals try (first | (have HN : Hid (∀ w, Gives Tryd.prog 20 #[.int .i64 self] w (.bool true)) := Lib.hid (fun w => (isNode_any self w).cast (by rw [show nodeB self = true from by simp only [nodeB, decide_eq_true_eq]; omega]))) | (have HN : Hid (∀ w, Gives Tryd.prog 20 #[.int .i64 self] w (.bool false)) := Lib.hid (fun w => (isNode_any self w).cast (by rw [show nodeB self = false from by simp only [nodeB, decide_eq_false_iff_not]; omega]))))
  all_goals try (first | (have HI : Hid (∀ w, Gives Tryd.prog 21 #[.int .i64 inc] w (.bool true)) := Lib.hid (fun w => (isInc_any inc w).cast (by rw [show incB inc = true from by simp only [incB, decide_eq_true_eq]; omega]))) | (have HI : Hid (∀ w, Gives Tryd.prog 21 #[.int .i64 inc] w (.bool false)) := Lib.hid (fun w => (isInc_any inc w).cast (by rw [show incB inc = false from by simp only [incB, decide_eq_false_iff_not]; omega]))))
  all_goals try (first | (have HM : Hid (∀ w, Gives Tryd.prog 12 #[.agg #[.int .i64 n, .int .i64 i, .int .i64 h]] w (.bool true)) := Lib.hid (fun w => (may_any n i h w).cast (by rw [show mayB n i h = true from by simp only [mayB, decide_eq_true_eq]; omega]))) | (have HM : Hid (∀ w, Gives Tryd.prog 12 #[.agg #[.int .i64 n, .int .i64 i, .int .i64 h]] w (.bool false)) := Lib.hid (fun w => (may_any n i h w).cast (by rw [show mayB n i h = false from by simp only [mayB, decide_eq_false_iff_not]; omega]))))
  all_goals try (first | (have e1 : ((n : Int) != self) = true := by first | exact beq_iff_eq.2 (by omega) | (rw [bne_iff_ne]; omega)) | (have e1 : ((n : Int) != self) = false := by first | exact beq_eq_false_iff_ne.2 (by omega) | exact bne_eq_false_iff_eq.2 (by omega)))
  all_goals try (first | (have HA : Hid (∀ w, Gives Tryd.prog 22 #[.agg #[.int .i64 n, .int .i64 i, .int .i64 h]] w (.bool true)) := Lib.hid (fun w => (accuses_any n i h w).cast (by rw [show accB h = true from by simp only [accB, decide_eq_true_eq]; omega]))) | (have HA : Hid (∀ w, Gives Tryd.prog 22 #[.agg #[.int .i64 n, .int .i64 i, .int .i64 h]] w (.bool false)) := Lib.hid (fun w => (accuses_any n i h w).cast (by rw [show accB h = false from by simp only [accB, decide_eq_false_iff_not]; omega]))))
  all_goals first | (have l1 : inc ≤ i := by omega) | (have l1 : i < inc := by omega) | skip
  all_goals first | (have l2 : 1000000 ≤ i := by omega) | (have l2 : i < 1000000 := by omega) | skip
  all_goals first | (have l5 : 0 ≤ i := by omega) | skip
  all_goals clear p q m e a b c
  all_goals
    go_enter Tryd.func9, Tryd.ntmps9
    go_wp2_with (first | (go_at_call 20; (first | (with_reducible refine Gives.on (HN.out _) ?_) | (refine Gives.mono' (HN.out _) ?_)); intro x) | (go_at_call 21; (first | (with_reducible refine Gives.on (HI.out _) ?_) | (refine Gives.mono' (HI.out _) ?_)); intro x) | (go_at_call 12; (first | (with_reducible refine Gives.on (HM.out _) ?_) | (refine Gives.mono' (HM.out _) ?_)); intro x) | (go_at_call 22; (first | (with_reducible refine Gives.on (HA.out _) ?_) | (refine Gives.mono' (HA.out _) ?_)); intro x))
    all_goals (go_ret2; exact ⟨by rw [HH.out.1, HH.out.2]; first | rfl | (simp [go_sem]; omega), Later.ex (by repeat (first | exact ext_refl _ | refine ext_alloc ?_ _ | refine ext_later ?_ _ | refine ext_drew ?_ | refine ext_drewN ?_ _))⟩)

set_option maxHeartbeats 400000 in
theorem refute_any_7 (self inc n i h : Int) (p : (0 ≤ self ∧ self < 8)) (q : (0 ≤ inc ∧ inc ≤ 1000000)) (m : ((0 ≤ n ∧ n < 8) ∧ ((i = 0 ∧ h = 0) ∨ ((0 ≤ i ∧ i ≤ 1000000) ∧ 1 ≤ h ∧ h ≤ 4)))) (e : n = self) (a : h = 2 ∨ h = 3) (b : ¬ i < inc) (c : ¬ 1000000 ≤ i) (w : World) : Gives Tryd.prog 9 #[.int .i64 self, .int .i64 inc, .agg #[.int .i64 n, .int .i64 i, .int .i64 h]] w (.tuple #[.int .i64 (refN self inc n i h), .int .i64 (refE self inc n i h)]) := by
  unfold Gives
  all_goals have HH : Hid (refN self inc n i h = i + 1 ∧ refE self inc n i h = 0) := Lib.hid (by unfold refN refE; constructor <;> rw [if_neg (fun z => z ⟨p, q, m⟩), if_neg (by omega), if_neg c])
  all_goals try (first | (have HN : Hid (∀ w, Gives Tryd.prog 20 #[.int .i64 self] w (.bool true)) := Lib.hid (fun w => (isNode_any self w).cast (by rw [show nodeB self = true from by simp only [nodeB, decide_eq_true_eq]; omega]))) | (have HN : Hid (∀ w, Gives Tryd.prog 20 #[.int .i64 self] w (.bool false)) := Lib.hid (fun w => (isNode_any self w).cast (by rw [show nodeB self = false from by simp only [nodeB, decide_eq_false_iff_not]; omega]))))
  all_goals try (first | (have HI : Hid (∀ w, Gives Tryd.prog 21 #[.int .i64 inc] w (.bool true)) := Lib.hid (fun w => (isInc_any inc w).cast (by rw [show incB inc = true from by simp only [incB, decide_eq_true_eq]; omega]))) | (have HI : Hid (∀ w, Gives Tryd.prog 21 #[.int .i64 inc] w (.bool false)) := Lib.hid (fun w => (isInc_any inc w).cast (by rw [show incB inc = false from by simp only [incB, decide_eq_false_iff_not]; omega]))))
  all_goals try (first | (have HM : Hid (∀ w, Gives Tryd.prog 12 #[.agg #[.int .i64 n, .int .i64 i, .int .i64 h]] w (.bool true)) := Lib.hid (fun w => (may_any n i h w).cast (by rw [show mayB n i h = true from by simp only [mayB, decide_eq_true_eq]; omega]))) | (have HM : Hid (∀ w, Gives Tryd.prog 12 #[.agg #[.int .i64 n, .int .i64 i, .int .i64 h]] w (.bool false)) := Lib.hid (fun w => (may_any n i h w).cast (by rw [show mayB n i h = false from by simp only [mayB, decide_eq_false_iff_not]; omega]))))
  all_goals try (first | (have e1 : ((n : Int) != self) = true := by first | exact beq_iff_eq.2 (by omega) | (rw [bne_iff_ne]; omega)) | (have e1 : ((n : Int) != self) = false := by first | exact beq_eq_false_iff_ne.2 (by omega) | exact bne_eq_false_iff_eq.2 (by omega)))
  all_goals try (first | (have HA : Hid (∀ w, Gives Tryd.prog 22 #[.agg #[.int .i64 n, .int .i64 i, .int .i64 h]] w (.bool true)) := Lib.hid (fun w => (accuses_any n i h w).cast (by rw [show accB h = true from by simp only [accB, decide_eq_true_eq]; omega]))) | (have HA : Hid (∀ w, Gives Tryd.prog 22 #[.agg #[.int .i64 n, .int .i64 i, .int .i64 h]] w (.bool false)) := Lib.hid (fun w => (accuses_any n i h w).cast (by rw [show accB h = false from by simp only [accB, decide_eq_false_iff_not]; omega]))))
  all_goals first | (have l1 : inc ≤ i := by omega) | (have l1 : i < inc := by omega) | skip
  all_goals first | (have l2 : 1000000 ≤ i := by omega) | (have l2 : i < 1000000 := by omega) | skip
  all_goals first | (have l5 : 0 ≤ i := by omega) | skip
  all_goals clear p q m e a b c
  all_goals
    go_enter Tryd.func9, Tryd.ntmps9
    go_wp2_with (first | (go_at_call 20; (first | (with_reducible refine Gives.on (HN.out _) ?_) | (refine Gives.mono' (HN.out _) ?_)); intro x) | (go_at_call 21; (first | (with_reducible refine Gives.on (HI.out _) ?_) | (refine Gives.mono' (HI.out _) ?_)); intro x) | (go_at_call 12; (first | (with_reducible refine Gives.on (HM.out _) ?_) | (refine Gives.mono' (HM.out _) ?_)); intro x) | (go_at_call 22; (first | (with_reducible refine Gives.on (HA.out _) ?_) | (refine Gives.mono' (HA.out _) ?_)); intro x))
    all_goals (go_ret2; exact ⟨by rw [HH.out.1, HH.out.2]; first | rfl | (simp [go_sem]; omega), Later.ex (by repeat (first | exact ext_refl _ | refine ext_alloc ?_ _ | refine ext_later ?_ _ | refine ext_drew ?_ | refine ext_drewN ?_ _))⟩)

theorem refute_any (self inc n i h : Int) (w : World) : Gives Tryd.prog 9 #[.int .i64 self, .int .i64 inc, .agg #[.int .i64 n, .int .i64 i, .int .i64 h]] w (.tuple #[.int .i64 (refN self inc n i h), .int .i64 (refE self inc n i h)]) := by
  by_cases p : (0 ≤ self ∧ self < 8)
  · by_cases q : (0 ≤ inc ∧ inc ≤ 1000000)
    · by_cases m : ((0 ≤ n ∧ n < 8) ∧ ((i = 0 ∧ h = 0) ∨ ((0 ≤ i ∧ i ≤ 1000000) ∧ 1 ≤ h ∧ h ≤ 4)))
      · by_cases e : n = self
        · by_cases a : h = 2 ∨ h = 3
          · by_cases b : i < inc
            · exact refute_any_5 self inc n i h p q m e a b w
            · by_cases c : 1000000 ≤ i
              · exact refute_any_6 self inc n i h p q m e a b c w
              · exact refute_any_7 self inc n i h p q m e a b c w
          · exact refute_any_4 self inc n i h p q m e a w
        · exact refute_any_3 self inc n i h p q m e w
      · exact refute_any_2 self inc n i h p q m w
    · exact refute_any_1 self inc n i h p q w
  · exact refute_any_0 self inc n i h p w

set_option maxHeartbeats 400000 in
theorem refRefute_any_0 (self inc n i h : Int) (p : ¬ (0 ≤ self ∧ self < 8)) (w : World) : Gives Tryd.prog 10 #[.int .i64 self, .int .i64 inc, .agg #[.int .i64 n, .int .i64 i, .int .i64 h]] w (.tuple #[.int .i64 (refN self inc n i h), .int .i64 (refE self inc n i h)]) := by
  unfold Gives
  all_goals have HH : Hid (refN self inc n i h = 0 ∧ refE self inc n i h = 1) := Lib.hid (by unfold refN refE; constructor <;> rw [if_pos (fun z => p z.1)])
  all_goals try (first | (have HN : Hid (∀ w, Gives Tryd.prog 19 #[.int .i64 self] w (.bool true)) := Lib.hid (fun w => (refNode_any self w).cast (by rw [show nodeB self = true from by simp only [nodeB, decide_eq_true_eq]; omega]))) | (have HN : Hid (∀ w, Gives Tryd.prog 19 #[.int .i64 self] w (.bool false)) := Lib.hid (fun w => (refNode_any self w).cast (by rw [show nodeB self = false from by simp only [nodeB, decide_eq_false_iff_not]; omega]))))
  all_goals first | (have l3 : 0 ≤ inc := by omega) | (have l3 : inc < 0 := by omega) | skip
  all_goals first | (have l4 : inc ≤ 1000000 := by omega) | (have l4 : 1000000 < inc := by omega) | skip
  all_goals try (first | (have HM : Hid (∀ w, Gives Tryd.prog 13 #[.agg #[.int .i64 n, .int .i64 i, .int .i64 h]] w (.bool true)) := Lib.hid (fun w => (refMay_any n i h w).cast (by rw [show mayB n i h = true from by simp only [mayB, decide_eq_true_eq]; omega]))) | (have HM : Hid (∀ w, Gives Tryd.prog 13 #[.agg #[.int .i64 n, .int .i64 i, .int .i64 h]] w (.bool false)) := Lib.hid (fun w => (refMay_any n i h w).cast (by rw [show mayB n i h = false from by simp only [mayB, decide_eq_false_iff_not]; omega]))))
  all_goals try (first | (have e1 : ((n : Int) != self) = true := by first | exact beq_iff_eq.2 (by omega) | (rw [bne_iff_ne]; omega)) | (have e1 : ((n : Int) != self) = false := by first | exact beq_eq_false_iff_ne.2 (by omega) | exact bne_eq_false_iff_eq.2 (by omega)))
  all_goals try (first | (have e2 : ((h : Int) != 2) = true := by first | exact beq_iff_eq.2 (by omega) | (rw [bne_iff_ne]; omega)) | (have e2 : ((h : Int) != 2) = false := by first | exact beq_eq_false_iff_ne.2 (by omega) | exact bne_eq_false_iff_eq.2 (by omega)))
  all_goals try (first | (have e3 : ((h : Int) != 3) = true := by first | exact beq_iff_eq.2 (by omega) | (rw [bne_iff_ne]; omega)) | (have e3 : ((h : Int) != 3) = false := by first | exact beq_eq_false_iff_ne.2 (by omega) | exact bne_eq_false_iff_eq.2 (by omega)))
  all_goals try (first | (have e4 : ((i : Int) == 1000000) = true := by first | exact beq_iff_eq.2 (by omega) | (rw [bne_iff_ne]; omega)) | (have e4 : ((i : Int) == 1000000) = false := by first | exact beq_eq_false_iff_ne.2 (by omega) | exact bne_eq_false_iff_eq.2 (by omega)))
  all_goals first | (have l1 : inc ≤ i := by omega) | (have l1 : i < inc := by omega) | skip
  all_goals first | (have l2 : 1000000 ≤ i := by omega) | (have l2 : i < 1000000 := by omega) | skip
  all_goals first | (have l5 : 0 ≤ i := by omega) | skip
  all_goals clear p
  all_goals
    go_enter Tryd.func10, Tryd.ntmps10
    go_wp2_with (first | (go_at_call 19; (first | (with_reducible refine Gives.on (HN.out _) ?_) | (refine Gives.mono' (HN.out _) ?_)); intro x) | (go_at_call 13; (first | (with_reducible refine Gives.on (HM.out _) ?_) | (refine Gives.mono' (HM.out _) ?_)); intro x))
    all_goals (go_ret2; exact ⟨by rw [HH.out.1, HH.out.2]; first | rfl | (simp [go_sem]; omega), Later.ex (by repeat (first | exact ext_refl _ | refine ext_alloc ?_ _ | refine ext_later ?_ _ | refine ext_drew ?_ | refine ext_drewN ?_ _))⟩)

set_option maxHeartbeats 400000 in
theorem refRefute_any_1 (self inc n i h : Int) (p : (0 ≤ self ∧ self < 8)) (q : ¬ (0 ≤ inc ∧ inc ≤ 1000000)) (w : World) : Gives Tryd.prog 10 #[.int .i64 self, .int .i64 inc, .agg #[.int .i64 n, .int .i64 i, .int .i64 h]] w (.tuple #[.int .i64 (refN self inc n i h), .int .i64 (refE self inc n i h)]) := by
  unfold Gives
  all_goals have HH : Hid (refN self inc n i h = 0 ∧ refE self inc n i h = 1) := Lib.hid (by unfold refN refE; constructor <;> rw [if_pos (fun z => q z.2.1)])
  all_goals rcases (show inc < 0 ∨ (0 ≤ inc ∧ 1000000 < inc) from by omega) with q | q
  all_goals try (first | (have HN : Hid (∀ w, Gives Tryd.prog 19 #[.int .i64 self] w (.bool true)) := Lib.hid (fun w => (refNode_any self w).cast (by rw [show nodeB self = true from by simp only [nodeB, decide_eq_true_eq]; omega]))) | (have HN : Hid (∀ w, Gives Tryd.prog 19 #[.int .i64 self] w (.bool false)) := Lib.hid (fun w => (refNode_any self w).cast (by rw [show nodeB self = false from by simp only [nodeB, decide_eq_false_iff_not]; omega]))))
  all_goals first | (have l3 : 0 ≤ inc := by omega) | (have l3 : inc < 0 := by omega) | skip
  all_goals first | (have l4 : inc ≤ 1000000 := by omega) | (have l4 : 1000000 < inc := by omega) | skip
  all_goals try (first | (have HM : Hid (∀ w, Gives Tryd.prog 13 #[.agg #[.int .i64 n, .int .i64 i, .int .i64 h]] w (.bool true)) := Lib.hid (fun w => (refMay_any n i h w).cast (by rw [show mayB n i h = true from by simp only [mayB, decide_eq_true_eq]; omega]))) | (have HM : Hid (∀ w, Gives Tryd.prog 13 #[.agg #[.int .i64 n, .int .i64 i, .int .i64 h]] w (.bool false)) := Lib.hid (fun w => (refMay_any n i h w).cast (by rw [show mayB n i h = false from by simp only [mayB, decide_eq_false_iff_not]; omega]))))
  all_goals try (first | (have e1 : ((n : Int) != self) = true := by first | exact beq_iff_eq.2 (by omega) | (rw [bne_iff_ne]; omega)) | (have e1 : ((n : Int) != self) = false := by first | exact beq_eq_false_iff_ne.2 (by omega) | exact bne_eq_false_iff_eq.2 (by omega)))
  all_goals try (first | (have e2 : ((h : Int) != 2) = true := by first | exact beq_iff_eq.2 (by omega) | (rw [bne_iff_ne]; omega)) | (have e2 : ((h : Int) != 2) = false := by first | exact beq_eq_false_iff_ne.2 (by omega) | exact bne_eq_false_iff_eq.2 (by omega)))
  all_goals try (first | (have e3 : ((h : Int) != 3) = true := by first | exact beq_iff_eq.2 (by omega) | (rw [bne_iff_ne]; omega)) | (have e3 : ((h : Int) != 3) = false := by first | exact beq_eq_false_iff_ne.2 (by omega) | exact bne_eq_false_iff_eq.2 (by omega)))
  all_goals try (first | (have e4 : ((i : Int) == 1000000) = true := by first | exact beq_iff_eq.2 (by omega) | (rw [bne_iff_ne]; omega)) | (have e4 : ((i : Int) == 1000000) = false := by first | exact beq_eq_false_iff_ne.2 (by omega) | exact bne_eq_false_iff_eq.2 (by omega)))
  all_goals first | (have l1 : inc ≤ i := by omega) | (have l1 : i < inc := by omega) | skip
  all_goals first | (have l2 : 1000000 ≤ i := by omega) | (have l2 : i < 1000000 := by omega) | skip
  all_goals first | (have l5 : 0 ≤ i := by omega) | skip
  all_goals clear p q
  all_goals
    go_enter Tryd.func10, Tryd.ntmps10
    go_wp2_with (first | (go_at_call 19; (first | (with_reducible refine Gives.on (HN.out _) ?_) | (refine Gives.mono' (HN.out _) ?_)); intro x) | (go_at_call 13; (first | (with_reducible refine Gives.on (HM.out _) ?_) | (refine Gives.mono' (HM.out _) ?_)); intro x))
    all_goals (go_ret2; exact ⟨by rw [HH.out.1, HH.out.2]; first | rfl | (simp [go_sem]; omega), Later.ex (by repeat (first | exact ext_refl _ | refine ext_alloc ?_ _ | refine ext_later ?_ _ | refine ext_drew ?_ | refine ext_drewN ?_ _))⟩)

set_option maxHeartbeats 400000 in
theorem refRefute_any_2 (self inc n i h : Int) (p : (0 ≤ self ∧ self < 8)) (q : (0 ≤ inc ∧ inc ≤ 1000000)) (m : ¬ ((0 ≤ n ∧ n < 8) ∧ ((i = 0 ∧ h = 0) ∨ ((0 ≤ i ∧ i ≤ 1000000) ∧ 1 ≤ h ∧ h ≤ 4)))) (w : World) : Gives Tryd.prog 10 #[.int .i64 self, .int .i64 inc, .agg #[.int .i64 n, .int .i64 i, .int .i64 h]] w (.tuple #[.int .i64 (refN self inc n i h), .int .i64 (refE self inc n i h)]) := by
  unfold Gives
  all_goals have HH : Hid (refN self inc n i h = 0 ∧ refE self inc n i h = 1) := Lib.hid (by unfold refN refE; constructor <;> rw [if_pos (fun z => m z.2.2)])
  all_goals try (first | (have HN : Hid (∀ w, Gives Tryd.prog 19 #[.int .i64 self] w (.bool true)) := Lib.hid (fun w => (refNode_any self w).cast (by rw [show nodeB self = true from by simp only [nodeB, decide_eq_true_eq]; omega]))) | (have HN : Hid (∀ w, Gives Tryd.prog 19 #[.int .i64 self] w (.bool false)) := Lib.hid (fun w => (refNode_any self w).cast (by rw [show nodeB self = false from by simp only [nodeB, decide_eq_false_iff_not]; omega]))))
  all_goals first | (have l3 : 0 ≤ inc := by omega) | (have l3 : inc < 0 := by omega) | skip
  all_goals first | (have l4 : inc ≤ 1000000 := by omega) | (have l4 : 1000000 < inc := by omega) | skip
  all_goals try (first | (have HM : Hid (∀ w, Gives Tryd.prog 13 #[.agg #[.int .i64 n, .int .i64 i, .int .i64 h]] w (.bool true)) := Lib.hid (fun w => (refMay_any n i h w).cast (by rw [show mayB n i h = true from by simp only [mayB, decide_eq_true_eq]; omega]))) | (have HM : Hid (∀ w, Gives Tryd.prog 13 #[.agg #[.int .i64 n, .int .i64 i, .int .i64 h]] w (.bool false)) := Lib.hid (fun w => (refMay_any n i h w).cast (by rw [show mayB n i h = false from by simp only [mayB, decide_eq_false_iff_not]; omega]))))
  all_goals try (first | (have e1 : ((n : Int) != self) = true := by first | exact beq_iff_eq.2 (by omega) | (rw [bne_iff_ne]; omega)) | (have e1 : ((n : Int) != self) = false := by first | exact beq_eq_false_iff_ne.2 (by omega) | exact bne_eq_false_iff_eq.2 (by omega)))
  all_goals try (first | (have e2 : ((h : Int) != 2) = true := by first | exact beq_iff_eq.2 (by omega) | (rw [bne_iff_ne]; omega)) | (have e2 : ((h : Int) != 2) = false := by first | exact beq_eq_false_iff_ne.2 (by omega) | exact bne_eq_false_iff_eq.2 (by omega)))
  all_goals try (first | (have e3 : ((h : Int) != 3) = true := by first | exact beq_iff_eq.2 (by omega) | (rw [bne_iff_ne]; omega)) | (have e3 : ((h : Int) != 3) = false := by first | exact beq_eq_false_iff_ne.2 (by omega) | exact bne_eq_false_iff_eq.2 (by omega)))
  all_goals try (first | (have e4 : ((i : Int) == 1000000) = true := by first | exact beq_iff_eq.2 (by omega) | (rw [bne_iff_ne]; omega)) | (have e4 : ((i : Int) == 1000000) = false := by first | exact beq_eq_false_iff_ne.2 (by omega) | exact bne_eq_false_iff_eq.2 (by omega)))
  all_goals first | (have l1 : inc ≤ i := by omega) | (have l1 : i < inc := by omega) | skip
  all_goals first | (have l2 : 1000000 ≤ i := by omega) | (have l2 : i < 1000000 := by omega) | skip
  all_goals first | (have l5 : 0 ≤ i := by omega) | skip
  all_goals clear p q m
  all_goals
    go_enter Tryd.func10, Tryd.ntmps10
    go_wp2_with (first | (go_at_call 19; (first | (with_reducible refine Gives.on (HN.out _) ?_) | (refine Gives.mono' (HN.out _) ?_)); intro x) | (go_at_call 13; (first | (with_reducible refine Gives.on (HM.out _) ?_) | (refine Gives.mono' (HM.out _) ?_)); intro x))
    all_goals (go_ret2; exact ⟨by rw [HH.out.1, HH.out.2]; first | rfl | (simp [go_sem]; omega), Later.ex (by repeat (first | exact ext_refl _ | refine ext_alloc ?_ _ | refine ext_later ?_ _ | refine ext_drew ?_ | refine ext_drewN ?_ _))⟩)

set_option maxHeartbeats 400000 in
theorem refRefute_any_3 (self inc n i h : Int) (p : (0 ≤ self ∧ self < 8)) (q : (0 ≤ inc ∧ inc ≤ 1000000)) (m : ((0 ≤ n ∧ n < 8) ∧ ((i = 0 ∧ h = 0) ∨ ((0 ≤ i ∧ i ≤ 1000000) ∧ 1 ≤ h ∧ h ≤ 4)))) (e : n ≠ self) (w : World) : Gives Tryd.prog 10 #[.int .i64 self, .int .i64 inc, .agg #[.int .i64 n, .int .i64 i, .int .i64 h]] w (.tuple #[.int .i64 (refN self inc n i h), .int .i64 (refE self inc n i h)]) := by
  unfold Gives
  all_goals have HH : Hid (refN self inc n i h = inc ∧ refE self inc n i h = 0) := Lib.hid (by unfold refN refE; constructor <;> rw [if_neg (fun z => z ⟨p, q, m⟩), if_pos (Or.inl e)])
  all_goals try (first | (have HN : Hid (∀ w, Gives Tryd.prog 19 #[.int .i64 self] w (.bool true)) := Lib.hid (fun w => (refNode_any self w).cast (by rw [show nodeB self = true from by simp only [nodeB, decide_eq_true_eq]; omega]))) | (have HN : Hid (∀ w, Gives Tryd.prog 19 #[.int .i64 self] w (.bool false)) := Lib.hid (fun w => (refNode_any self w).cast (by rw [show nodeB self = false from by simp only [nodeB, decide_eq_false_iff_not]; omega]))))
  all_goals first | (have l3 : 0 ≤ inc := by omega) | (have l3 : inc < 0 := by omega) | skip
  all_goals first | (have l4 : inc ≤ 1000000 := by omega) | (have l4 : 1000000 < inc := by omega) | skip
  all_goals try (first | (have HM : Hid (∀ w, Gives Tryd.prog 13 #[.agg #[.int .i64 n, .int .i64 i, .int .i64 h]] w (.bool true)) := Lib.hid (fun w => (refMay_any n i h w).cast (by rw [show mayB n i h = true from by simp only [mayB, decide_eq_true_eq]; omega]))) | (have HM : Hid (∀ w, Gives Tryd.prog 13 #[.agg #[.int .i64 n, .int .i64 i, .int .i64 h]] w (.bool false)) := Lib.hid (fun w => (refMay_any n i h w).cast (by rw [show mayB n i h = false from by simp only [mayB, decide_eq_false_iff_not]; omega]))))
  all_goals try (first | (have e1 : ((n : Int) != self) = true := by first | exact beq_iff_eq.2 (by omega) | (rw [bne_iff_ne]; omega)) | (have e1 : ((n : Int) != self) = false := by first | exact beq_eq_false_iff_ne.2 (by omega) | exact bne_eq_false_iff_eq.2 (by omega)))
  all_goals try (first | (have e2 : ((h : Int) != 2) = true := by first | exact beq_iff_eq.2 (by omega) | (rw [bne_iff_ne]; omega)) | (have e2 : ((h : Int) != 2) = false := by first | exact beq_eq_false_iff_ne.2 (by omega) | exact bne_eq_false_iff_eq.2 (by omega)))
  all_goals try (first | (have e3 : ((h : Int) != 3) = true := by first | exact beq_iff_eq.2 (by omega) | (rw [bne_iff_ne]; omega)) | (have e3 : ((h : Int) != 3) = false := by first | exact beq_eq_false_iff_ne.2 (by omega) | exact bne_eq_false_iff_eq.2 (by omega)))
  all_goals try (first | (have e4 : ((i : Int) == 1000000) = true := by first | exact beq_iff_eq.2 (by omega) | (rw [bne_iff_ne]; omega)) | (have e4 : ((i : Int) == 1000000) = false := by first | exact beq_eq_false_iff_ne.2 (by omega) | exact bne_eq_false_iff_eq.2 (by omega)))
  all_goals first | (have l1 : inc ≤ i := by omega) | (have l1 : i < inc := by omega) | skip
  all_goals first | (have l2 : 1000000 ≤ i := by omega) | (have l2 : i < 1000000 := by omega) | skip
  all_goals first | (have l5 : 0 ≤ i := by omega) | skip
  all_goals clear p q m e
  all_goals
    go_enter Tryd.func10, Tryd.ntmps10
    go_wp2_with (first | (go_at_call 19; (first | (with_reducible refine Gives.on (HN.out _) ?_) | (refine Gives.mono' (HN.out _) ?_)); intro x) | (go_at_call 13; (first | (with_reducible refine Gives.on (HM.out _) ?_) | (refine Gives.mono' (HM.out _) ?_)); intro x))
    all_goals (go_ret2; exact ⟨by rw [HH.out.1, HH.out.2]; first | rfl | (simp [go_sem]; omega), Later.ex (by repeat (first | exact ext_refl _ | refine ext_alloc ?_ _ | refine ext_later ?_ _ | refine ext_drew ?_ | refine ext_drewN ?_ _))⟩)

set_option maxHeartbeats 400000 in
theorem refRefute_any_4 (self inc n i h : Int) (p : (0 ≤ self ∧ self < 8)) (q : (0 ≤ inc ∧ inc ≤ 1000000)) (m : ((0 ≤ n ∧ n < 8) ∧ ((i = 0 ∧ h = 0) ∨ ((0 ≤ i ∧ i ≤ 1000000) ∧ 1 ≤ h ∧ h ≤ 4)))) (e : n = self) (a : ¬ (h = 2 ∨ h = 3)) (w : World) : Gives Tryd.prog 10 #[.int .i64 self, .int .i64 inc, .agg #[.int .i64 n, .int .i64 i, .int .i64 h]] w (.tuple #[.int .i64 (refN self inc n i h), .int .i64 (refE self inc n i h)]) := by
  unfold Gives
  all_goals have HH : Hid (refN self inc n i h = inc ∧ refE self inc n i h = 0) := Lib.hid (by unfold refN refE; constructor <;> rw [if_neg (fun z => z ⟨p, q, m⟩), if_pos (Or.inr (Or.inl a))])
  all_goals try (first | (have HN : Hid (∀ w, Gives Tryd.prog 19 #[.int .i64 self] w (.bool true)) := Lib.hid (fun w => (refNode_any self w).cast (by rw [show nodeB self = true from by simp only [nodeB, decide_eq_true_eq]; omega]))) | (have HN : Hid (∀ w, Gives Tryd.prog 19 #[.int .i64 self] w (.bool false)) := Lib.hid (fun w => (refNode_any self w).cast (by rw [show nodeB self = false from by simp only [nodeB, decide_eq_false_iff_not]; omega]))))
  all_goals first | (have l3 : 0 ≤ inc := by omega) | (have l3 : inc < 0 := by omega) | skip
  all_goals first | (have l4 : inc ≤ 1000000 := by omega) | (have l4 : 1000000 < inc := by omega) | skip
  all_goals try (first | (have HM : Hid (∀ w, Gives Tryd.prog 13 #[.agg #[.int .i64 n, .int .i64 i, .int .i64 h]] w (.bool true)) := Lib.hid (fun w => (refMay_any n i h w).cast (by rw [show mayB n i h = true from by simp only [mayB, decide_eq_true_eq]; omega]))) | (have HM : Hid (∀ w, Gives Tryd.prog 13 #[.agg #[.int .i64 n, .int .i64 i, .int .i64 h]] w (.bool false)) := Lib.hid (fun w => (refMay_any n i h w).cast (by rw [show mayB n i h = false from by simp only [mayB, decide_eq_false_iff_not]; omega]))))
  all_goals try (first | (have e1 : ((n : Int) != self) = true := by first | exact beq_iff_eq.2 (by omega) | (rw [bne_iff_ne]; omega)) | (have e1 : ((n : Int) != self) = false := by first | exact beq_eq_false_iff_ne.2 (by omega) | exact bne_eq_false_iff_eq.2 (by omega)))
  all_goals try (first | (have e2 : ((h : Int) != 2) = true := by first | exact beq_iff_eq.2 (by omega) | (rw [bne_iff_ne]; omega)) | (have e2 : ((h : Int) != 2) = false := by first | exact beq_eq_false_iff_ne.2 (by omega) | exact bne_eq_false_iff_eq.2 (by omega)))
  all_goals try (first | (have e3 : ((h : Int) != 3) = true := by first | exact beq_iff_eq.2 (by omega) | (rw [bne_iff_ne]; omega)) | (have e3 : ((h : Int) != 3) = false := by first | exact beq_eq_false_iff_ne.2 (by omega) | exact bne_eq_false_iff_eq.2 (by omega)))
  all_goals try (first | (have e4 : ((i : Int) == 1000000) = true := by first | exact beq_iff_eq.2 (by omega) | (rw [bne_iff_ne]; omega)) | (have e4 : ((i : Int) == 1000000) = false := by first | exact beq_eq_false_iff_ne.2 (by omega) | exact bne_eq_false_iff_eq.2 (by omega)))
  all_goals first | (have l1 : inc ≤ i := by omega) | (have l1 : i < inc := by omega) | skip
  all_goals first | (have l2 : 1000000 ≤ i := by omega) | (have l2 : i < 1000000 := by omega) | skip
  all_goals first | (have l5 : 0 ≤ i := by omega) | skip
  all_goals clear p q m e a
  all_goals
    go_enter Tryd.func10, Tryd.ntmps10
    go_wp2_with (first | (go_at_call 19; (first | (with_reducible refine Gives.on (HN.out _) ?_) | (refine Gives.mono' (HN.out _) ?_)); intro x) | (go_at_call 13; (first | (with_reducible refine Gives.on (HM.out _) ?_) | (refine Gives.mono' (HM.out _) ?_)); intro x))
    all_goals (go_ret2; exact ⟨by rw [HH.out.1, HH.out.2]; first | rfl | (simp [go_sem]; omega), Later.ex (by repeat (first | exact ext_refl _ | refine ext_alloc ?_ _ | refine ext_later ?_ _ | refine ext_drew ?_ | refine ext_drewN ?_ _))⟩)

set_option maxHeartbeats 400000 in
theorem refRefute_any_5 (self inc n i h : Int) (p : (0 ≤ self ∧ self < 8)) (q : (0 ≤ inc ∧ inc ≤ 1000000)) (m : ((0 ≤ n ∧ n < 8) ∧ ((i = 0 ∧ h = 0) ∨ ((0 ≤ i ∧ i ≤ 1000000) ∧ 1 ≤ h ∧ h ≤ 4)))) (e : n = self) (a : h = 2 ∨ h = 3) (b : i < inc) (w : World) : Gives Tryd.prog 10 #[.int .i64 self, .int .i64 inc, .agg #[.int .i64 n, .int .i64 i, .int .i64 h]] w (.tuple #[.int .i64 (refN self inc n i h), .int .i64 (refE self inc n i h)]) := by
  unfold Gives
  all_goals rcases a with a | a
  all_goals have HH : Hid (refN self inc n i h = inc ∧ refE self inc n i h = 0) := Lib.hid (by unfold refN refE; constructor <;> rw [if_neg (fun z => z ⟨p, q, m⟩), if_pos (Or.inr (Or.inr b))])
  all_goals try (first | (have HN : Hid (∀ w, Gives Tryd.prog 19 #[.int .i64 self] w (.bool true)) := Lib.hid (fun w => (refNode_any self w).cast (by rw [show nodeB self = true from by simp only [nodeB, decide_eq_true_eq]; omega]))) | (have HN : Hid (∀ w, Gives Tryd.prog 19 #[.int .i64 self] w (.bool false)) := Lib.hid (fun w => (refNode_any self w).cast (by rw [show nodeB self = false from by simp only [nodeB, decide_eq_false_iff_not]; omega]))))
  all_goals first | (have l3 : 0 ≤ inc := by omega) | (have l3 : inc < 0 := by omega) | skip
  all_goals first | (have l4 : inc ≤ 1000000 := by omega) | (have l4 : 1000000 < inc := by omega) | skip
  all_goals try (first | (have HM : Hid (∀ w, Gives Tryd.prog 13 #[.agg #[.int .i64 n, .int .i64 i, .int .i64 h]] w (.bool true)) := Lib.hid (fun w => (refMay_any n i h w).cast (by rw [show mayB n i h = true from by simp only [mayB, decide_eq_true_eq]; omega]))) | (have HM : Hid (∀ w, Gives Tryd.prog 13 #[.agg #[.int .i64 n, .int .i64 i, .int .i64 h]] w (.bool false)) := Lib.hid (fun w => (refMay_any n i h w).cast (by rw [show mayB n i h = false from by simp only [mayB, decide_eq_false_iff_not]; omega]))))
  all_goals try (first | (have e1 : ((n : Int) != self) = true := by first | exact beq_iff_eq.2 (by omega) | (rw [bne_iff_ne]; omega)) | (have e1 : ((n : Int) != self) = false := by first | exact beq_eq_false_iff_ne.2 (by omega) | exact bne_eq_false_iff_eq.2 (by omega)))
  all_goals try (first | (have e2 : ((h : Int) != 2) = true := by first | exact beq_iff_eq.2 (by omega) | (rw [bne_iff_ne]; omega)) | (have e2 : ((h : Int) != 2) = false := by first | exact beq_eq_false_iff_ne.2 (by omega) | exact bne_eq_false_iff_eq.2 (by omega)))
  all_goals try (first | (have e3 : ((h : Int) != 3) = true := by first | exact beq_iff_eq.2 (by omega) | (rw [bne_iff_ne]; omega)) | (have e3 : ((h : Int) != 3) = false := by first | exact beq_eq_false_iff_ne.2 (by omega) | exact bne_eq_false_iff_eq.2 (by omega)))
  all_goals try (first | (have e4 : ((i : Int) == 1000000) = true := by first | exact beq_iff_eq.2 (by omega) | (rw [bne_iff_ne]; omega)) | (have e4 : ((i : Int) == 1000000) = false := by first | exact beq_eq_false_iff_ne.2 (by omega) | exact bne_eq_false_iff_eq.2 (by omega)))
  all_goals first | (have l1 : inc ≤ i := by omega) | (have l1 : i < inc := by omega) | skip
  all_goals first | (have l2 : 1000000 ≤ i := by omega) | (have l2 : i < 1000000 := by omega) | skip
  all_goals first | (have l5 : 0 ≤ i := by omega) | skip
  all_goals clear p q m e a b
  all_goals
    go_enter Tryd.func10, Tryd.ntmps10
    go_wp2_with (first | (go_at_call 19; (first | (with_reducible refine Gives.on (HN.out _) ?_) | (refine Gives.mono' (HN.out _) ?_)); intro x) | (go_at_call 13; (first | (with_reducible refine Gives.on (HM.out _) ?_) | (refine Gives.mono' (HM.out _) ?_)); intro x))
    all_goals (go_ret2; exact ⟨by rw [HH.out.1, HH.out.2]; first | rfl | (simp [go_sem]; omega), Later.ex (by repeat (first | exact ext_refl _ | refine ext_alloc ?_ _ | refine ext_later ?_ _ | refine ext_drew ?_ | refine ext_drewN ?_ _))⟩)

set_option maxHeartbeats 400000 in
theorem refRefute_any_6 (self inc n i h : Int) (p : (0 ≤ self ∧ self < 8)) (q : (0 ≤ inc ∧ inc ≤ 1000000)) (m : ((0 ≤ n ∧ n < 8) ∧ ((i = 0 ∧ h = 0) ∨ ((0 ≤ i ∧ i ≤ 1000000) ∧ 1 ≤ h ∧ h ≤ 4)))) (e : n = self) (a : h = 2 ∨ h = 3) (b : ¬ i < inc) (c : 1000000 ≤ i) (w : World) : Gives Tryd.prog 10 #[.int .i64 self, .int .i64 inc, .agg #[.int .i64 n, .int .i64 i, .int .i64 h]] w (.tuple #[.int .i64 (refN self inc n i h), .int .i64 (refE self inc n i h)]) := by
  unfold Gives
  all_goals rcases a with a | a
  all_goals have HH : Hid (refN self inc n i h = inc ∧ refE self inc n i h = 6) := Lib.hid (by unfold refN refE; constructor <;> rw [if_neg (fun z => z ⟨p, q, m⟩), if_neg (by omega), if_pos c])
  all_goals try (first | (have HN : Hid (∀ w, Gives Tryd.prog 19 #[.int .i64 self] w (.bool true)) := Lib.hid (fun w => (refNode_any self w).cast (by rw [show nodeB self = true from by simp only [nodeB, decide_eq_true_eq]; omega]))) | (have HN : Hid (∀ w, Gives Tryd.prog 19 #[.int .i64 self] w (.bool false)) := Lib.hid (fun w => (refNode_any self w).cast (by rw [show nodeB self = false from by simp only [nodeB, decide_eq_false_iff_not]; omega]))))
  all_goals first | (have l3 : 0 ≤ inc := by omega) | (have l3 : inc < 0 := by omega) | skip
  all_goals first | (have l4 : inc ≤ 1000000 := by omega) | (have l4 : 1000000 < inc := by omega) | skip
  all_goals try (first | (have HM : Hid (∀ w, Gives Tryd.prog 13 #[.agg #[.int .i64 n, .int .i64 i, .int .i64 h]] w (.bool true)) := Lib.hid (fun w => (refMay_any n i h w).cast (by rw [show mayB n i h = true from by simp only [mayB, decide_eq_true_eq]; omega]))) | (have HM : Hid (∀ w, Gives Tryd.prog 13 #[.agg #[.int .i64 n, .int .i64 i, .int .i64 h]] w (.bool false)) := Lib.hid (fun w => (refMay_any n i h w).cast (by rw [show mayB n i h = false from by simp only [mayB, decide_eq_false_iff_not]; omega]))))
  all_goals try (first | (have e1 : ((n : Int) != self) = true := by first | exact beq_iff_eq.2 (by omega) | (rw [bne_iff_ne]; omega)) | (have e1 : ((n : Int) != self) = false := by first | exact beq_eq_false_iff_ne.2 (by omega) | exact bne_eq_false_iff_eq.2 (by omega)))
  all_goals try (first | (have e2 : ((h : Int) != 2) = true := by first | exact beq_iff_eq.2 (by omega) | (rw [bne_iff_ne]; omega)) | (have e2 : ((h : Int) != 2) = false := by first | exact beq_eq_false_iff_ne.2 (by omega) | exact bne_eq_false_iff_eq.2 (by omega)))
  all_goals try (first | (have e3 : ((h : Int) != 3) = true := by first | exact beq_iff_eq.2 (by omega) | (rw [bne_iff_ne]; omega)) | (have e3 : ((h : Int) != 3) = false := by first | exact beq_eq_false_iff_ne.2 (by omega) | exact bne_eq_false_iff_eq.2 (by omega)))
  all_goals try (first | (have e4 : ((i : Int) == 1000000) = true := by first | exact beq_iff_eq.2 (by omega) | (rw [bne_iff_ne]; omega)) | (have e4 : ((i : Int) == 1000000) = false := by first | exact beq_eq_false_iff_ne.2 (by omega) | exact bne_eq_false_iff_eq.2 (by omega)))
  all_goals first | (have l1 : inc ≤ i := by omega) | (have l1 : i < inc := by omega) | skip
  all_goals first | (have l2 : 1000000 ≤ i := by omega) | (have l2 : i < 1000000 := by omega) | skip
  all_goals first | (have l5 : 0 ≤ i := by omega) | skip
  all_goals clear p q m e a b c
  all_goals
    go_enter Tryd.func10, Tryd.ntmps10
    go_wp2_with (first | (go_at_call 19; (first | (with_reducible refine Gives.on (HN.out _) ?_) | (refine Gives.mono' (HN.out _) ?_)); intro x) | (go_at_call 13; (first | (with_reducible refine Gives.on (HM.out _) ?_) | (refine Gives.mono' (HM.out _) ?_)); intro x))
    all_goals (go_ret2; exact ⟨by rw [HH.out.1, HH.out.2]; first | rfl | (simp [go_sem]; omega), Later.ex (by repeat (first | exact ext_refl _ | refine ext_alloc ?_ _ | refine ext_later ?_ _ | refine ext_drew ?_ | refine ext_drewN ?_ _))⟩)

set_option maxHeartbeats 400000 in
theorem refRefute_any_7 (self inc n i h : Int) (p : (0 ≤ self ∧ self < 8)) (q : (0 ≤ inc ∧ inc ≤ 1000000)) (m : ((0 ≤ n ∧ n < 8) ∧ ((i = 0 ∧ h = 0) ∨ ((0 ≤ i ∧ i ≤ 1000000) ∧ 1 ≤ h ∧ h ≤ 4)))) (e : n = self) (a : h = 2 ∨ h = 3) (b : ¬ i < inc) (c : ¬ 1000000 ≤ i) (w : World) : Gives Tryd.prog 10 #[.int .i64 self, .int .i64 inc, .agg #[.int .i64 n, .int .i64 i, .int .i64 h]] w (.tuple #[.int .i64 (refN self inc n i h), .int .i64 (refE self inc n i h)]) := by
  unfold Gives
  all_goals rcases a with a | a
  all_goals have HH : Hid (refN self inc n i h = i + 1 ∧ refE self inc n i h = 0) := Lib.hid (by unfold refN refE; constructor <;> rw [if_neg (fun z => z ⟨p, q, m⟩), if_neg (by omega), if_neg c])
  all_goals try (first | (have HN : Hid (∀ w, Gives Tryd.prog 19 #[.int .i64 self] w (.bool true)) := Lib.hid (fun w => (refNode_any self w).cast (by rw [show nodeB self = true from by simp only [nodeB, decide_eq_true_eq]; omega]))) | (have HN : Hid (∀ w, Gives Tryd.prog 19 #[.int .i64 self] w (.bool false)) := Lib.hid (fun w => (refNode_any self w).cast (by rw [show nodeB self = false from by simp only [nodeB, decide_eq_false_iff_not]; omega]))))
  all_goals first | (have l3 : 0 ≤ inc := by omega) | (have l3 : inc < 0 := by omega) | skip
  all_goals first | (have l4 : inc ≤ 1000000 := by omega) | (have l4 : 1000000 < inc := by omega) | skip
  all_goals try (first | (have HM : Hid (∀ w, Gives Tryd.prog 13 #[.agg #[.int .i64 n, .int .i64 i, .int .i64 h]] w (.bool true)) := Lib.hid (fun w => (refMay_any n i h w).cast (by rw [show mayB n i h = true from by simp only [mayB, decide_eq_true_eq]; omega]))) | (have HM : Hid (∀ w, Gives Tryd.prog 13 #[.agg #[.int .i64 n, .int .i64 i, .int .i64 h]] w (.bool false)) := Lib.hid (fun w => (refMay_any n i h w).cast (by rw [show mayB n i h = false from by simp only [mayB, decide_eq_false_iff_not]; omega]))))
  all_goals try (first | (have e1 : ((n : Int) != self) = true := by first | exact beq_iff_eq.2 (by omega) | (rw [bne_iff_ne]; omega)) | (have e1 : ((n : Int) != self) = false := by first | exact beq_eq_false_iff_ne.2 (by omega) | exact bne_eq_false_iff_eq.2 (by omega)))
  all_goals try (first | (have e2 : ((h : Int) != 2) = true := by first | exact beq_iff_eq.2 (by omega) | (rw [bne_iff_ne]; omega)) | (have e2 : ((h : Int) != 2) = false := by first | exact beq_eq_false_iff_ne.2 (by omega) | exact bne_eq_false_iff_eq.2 (by omega)))
  all_goals try (first | (have e3 : ((h : Int) != 3) = true := by first | exact beq_iff_eq.2 (by omega) | (rw [bne_iff_ne]; omega)) | (have e3 : ((h : Int) != 3) = false := by first | exact beq_eq_false_iff_ne.2 (by omega) | exact bne_eq_false_iff_eq.2 (by omega)))
  all_goals try (first | (have e4 : ((i : Int) == 1000000) = true := by first | exact beq_iff_eq.2 (by omega) | (rw [bne_iff_ne]; omega)) | (have e4 : ((i : Int) == 1000000) = false := by first | exact beq_eq_false_iff_ne.2 (by omega) | exact bne_eq_false_iff_eq.2 (by omega)))
  all_goals first | (have l1 : inc ≤ i := by omega) | (have l1 : i < inc := by omega) | skip
  all_goals first | (have l2 : 1000000 ≤ i := by omega) | (have l2 : i < 1000000 := by omega) | skip
  all_goals first | (have l5 : 0 ≤ i := by omega) | skip
  all_goals clear p q m e a b c
  all_goals
    go_enter Tryd.func10, Tryd.ntmps10
    go_wp2_with (first | (go_at_call 19; (first | (with_reducible refine Gives.on (HN.out _) ?_) | (refine Gives.mono' (HN.out _) ?_)); intro x) | (go_at_call 13; (first | (with_reducible refine Gives.on (HM.out _) ?_) | (refine Gives.mono' (HM.out _) ?_)); intro x))
    all_goals (go_ret2; exact ⟨by rw [HH.out.1, HH.out.2]; first | rfl | (simp [go_sem]; omega), Later.ex (by repeat (first | exact ext_refl _ | refine ext_alloc ?_ _ | refine ext_later ?_ _ | refine ext_drew ?_ | refine ext_drewN ?_ _))⟩)

theorem refRefute_any (self inc n i h : Int) (w : World) : Gives Tryd.prog 10 #[.int .i64 self, .int .i64 inc, .agg #[.int .i64 n, .int .i64 i, .int .i64 h]] w (.tuple #[.int .i64 (refN self inc n i h), .int .i64 (refE self inc n i h)]) := by
  by_cases p : (0 ≤ self ∧ self < 8)
  · by_cases q : (0 ≤ inc ∧ inc ≤ 1000000)
    · by_cases m : ((0 ≤ n ∧ n < 8) ∧ ((i = 0 ∧ h = 0) ∨ ((0 ≤ i ∧ i ≤ 1000000) ∧ 1 ≤ h ∧ h ≤ 4)))
      · by_cases e : n = self
        · by_cases a : h = 2 ∨ h = 3
          · by_cases b : i < inc
            · exact refRefute_any_5 self inc n i h p q m e a b w
            · by_cases c : 1000000 ≤ i
              · exact refRefute_any_6 self inc n i h p q m e a b c w
              · exact refRefute_any_7 self inc n i h p q m e a b c w
          · exact refRefute_any_4 self inc n i h p q m e a w
        · exact refRefute_any_3 self inc n i h p q m e w
      · exact refRefute_any_2 self inc n i h p q m w
    · exact refRefute_any_1 self inc n i h p q w
  · exact refRefute_any_0 self inc n i h p w
end Go.Proofs.YtbdhnmjmbbahhaaDoor
