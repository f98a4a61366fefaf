/- The reference's answers on claims. -/
import Derived.Test.YtlcmehighgmoeaaClaims
namespace Go.Proofs.Ytlcmehighgmoeaa
open Go Go.RowKit

set_option maxHeartbeats 400000 in
theorem refNode_any (n : Int) (w : World) : Gives Try.prog 20 #[.int .i64 n] w (.bool (nodeB n)) := by
  unfold Gives
  by_cases q0 : 0 ≤ n <;> by_cases q1 : n < 8
  all_goals try (exfalso; omega)
  all_goals first | (have H : Hid (nodeB n = true) := Lib.hid (by simp [nodeB]; omega)) | (have H : Hid (nodeB n = false) := Lib.hid (by simp [nodeB]; omega))
  all_goals
    go_enter Try.func20, Try.ntmps20
    go_wp2
    all_goals go_ret
    all_goals exact ⟨by rw [H.out]; rfl, Later.ex (by repeat (first | exact ext_refl _ | refine ext_alloc ?_ _ | refine ext_later ?_ _ | refine ext_drew ?_ | refine ext_drewN ?_ _))⟩

set_option maxHeartbeats 400000 in
theorem refNothing_any (n i h : Int) (w : World) : Gives Try.prog 28 #[.agg #[.int .i64 n, .int .i64 i, .int .i64 h]] w (.bool (nothingB i h)) := by
  unfold Gives
  by_cases q0 : i = 0 <;> by_cases q1 : h = 0
  all_goals try (exfalso; omega)
  all_goals first | (have H : Hid (nothingB i h = true) := Lib.hid (by simp [nothingB]; omega)) | (have H : Hid (nothingB i h = false) := Lib.hid (by simp [nothingB]; omega))
  all_goals first | (have eq0 : ((i : Int) == 0) = true := by simp [q0]) | (have eq0 : ((i : Int) == 0) = false := by simp [q0])
  all_goals first | (have eq1 : ((h : Int) == 0) = true := by simp [q1]) | (have eq1 : ((h : Int) == 0) = false := by simp [q1])
  all_goals clear q0 q1
  all_goals
    go_enter Try.func28, Try.ntmps28
    go_wp2
    all_goals go_ret
    all_goals exact ⟨by rw [H.out]; rfl, Later.ex (by repeat (first | exact ext_refl _ | refine ext_alloc ?_ _ | refine ext_later ?_ _ | refine ext_drew ?_ | refine ext_drewN ?_ _))⟩

set_option maxHeartbeats 400000 in
theorem refMay_any (n i h : Int) (w : World) : Gives Try.prog 27 #[.agg #[.int .i64 n, .int .i64 i, .int .i64 h]] w (.bool (mayB n i h)) := by
  unfold Gives
  rcases (show (¬ (0 ≤ n ∧ n < 8)) ∨ ((0 ≤ n ∧ n < 8) ∧ h = 0 ∧ i = 0) ∨ ((0 ≤ n ∧ n < 8) ∧ ¬ (h = 0 ∧ i = 0) ∧ i < 0) ∨ ((0 ≤ n ∧ n < 8) ∧ ¬ (h = 0 ∧ i = 0) ∧ 0 ≤ i ∧ 1000000 < i) ∨ ((0 ≤ n ∧ n < 8) ∧ ¬ (h = 0 ∧ i = 0) ∧ 0 ≤ i ∧ i ≤ 1000000 ∧ h < 1) ∨ ((0 ≤ n ∧ n < 8) ∧ ¬ (h = 0 ∧ i = 0) ∧ 0 ≤ i ∧ i ≤ 1000000 ∧ 1 ≤ h ∧ 4 < h) ∨ ((0 ≤ n ∧ n < 8) ∧ ¬ (h = 0 ∧ i = 0) ∧ 0 ≤ i ∧ i ≤ 1000000 ∧ 1 ≤ h ∧ h ≤ 4) from by omega) with q | q | q | q | q | q | q
  all_goals first | (have HH : Hid (mayB n i h = true) := Lib.hid (by simp only [mayB, decide_eq_true_eq]; omega)) | (have HH : Hid (mayB n i h = false) := Lib.hid (by simp only [mayB, decide_eq_false_iff_not]; omega))
  all_goals try (first | (have HN : Hid (∀ w, Gives Try.prog 20 #[.int .i64 n] w (.bool true)) := Lib.hid (fun w => (refNode_any n w).cast (by rw [show nodeB n = true from by simp only [nodeB, decide_eq_true_eq]; omega]))) | (have HN : Hid (∀ w, Gives Try.prog 20 #[.int .i64 n] w (.bool false)) := Lib.hid (fun w => (refNode_any n w).cast (by rw [show nodeB n = false from by simp only [nodeB, decide_eq_false_iff_not]; omega]))))
  all_goals try (first | (have HS : Hid (∀ w, Gives Try.prog 28 #[.agg #[.int .i64 n, .int .i64 i, .int .i64 h]] w (.bool true)) := Lib.hid (fun w => (refNothing_any n i h w).cast (by rw [show nothingB i h = true from by simp only [nothingB, decide_eq_true_eq]; omega]))) | (have HS : Hid (∀ w, Gives Try.prog 28 #[.agg #[.int .i64 n, .int .i64 i, .int .i64 h]] w (.bool false)) := Lib.hid (fun w => (refNothing_any n i h w).cast (by rw [show nothingB i h = false from by simp only [nothingB, decide_eq_false_iff_not]; omega]))))
  all_goals first | (have l1 : 1 ≤ h := by omega) | (have l1 : h < 1 := by omega) | skip
  all_goals first | (have l2 : h ≤ 4 := by omega) | (have l2 : 4 < h := by omega) | skip
  all_goals first | (have l3 : 0 ≤ i := by omega) | (have l3 : i < 0 := by omega) | skip
  all_goals first | (have l4 : i ≤ 1000000 := by omega) | (have l4 : 1000000 < i := by omega) | skip
  all_goals clear q
  all_goals
    go_enter Try.func27, Try.ntmps27
    go_wp2_with (first | (go_at_call 20; (first | (with_reducible refine Gives.on (HN.out _) ?_) | (refine Gives.mono' (HN.out _) ?_)); intro x) | (go_at_call 28; (first | (with_reducible refine Gives.on (HS.out _) ?_) | (refine Gives.mono' (HS.out _) ?_)); intro x))
    all_goals (go_ret; exact ⟨by rw [HH.out]; first | rfl | (simp [go_sem]; omega), Later.ex (by repeat (first | exact ext_refl _ | refine ext_alloc ?_ _ | refine ext_later ?_ _ | refine ext_drew ?_ | refine ext_drewN ?_ _))⟩)

set_option maxHeartbeats 400000 in
theorem refCmp_any (a b : Int) (w : World) : Gives Try.prog 40 #[.int .i64 a, .int .i64 b] w (.int .i64 (Lib.compareInt a b)) := by
  unfold Gives
  by_cases q0 : a < b <;> by_cases q1 : b < a
  all_goals try (exfalso; omega)
  all_goals first | (have HH : Hid (Lib.compareInt a b = -1) := Lib.hid (by unfold Lib.compareInt; rw [if_pos (by omega)])) | (have HH : Hid (Lib.compareInt a b = 1) := Lib.hid (by unfold Lib.compareInt; rw [if_neg (by omega), if_pos (by omega)])) | (have HH : Hid (Lib.compareInt a b = 0) := Lib.hid (by unfold Lib.compareInt; rw [if_neg (by omega), if_neg (by omega)]))
  all_goals
    go_enter Try.func40, Try.ntmps40
    go_wp2_with (fail)
    all_goals (go_ret; exact ⟨by rw [HH.out]; first | rfl | (simp [go_sem]; omega), Later.ex (by repeat (first | exact ext_refl _ | refine ext_alloc ?_ _ | refine ext_later ?_ _ | refine ext_drew ?_ | refine ext_drewN ?_ _))⟩)

set_option maxHeartbeats 400000 in
theorem refCompare_any (n1 i1 h1 n2 i2 h2 : Int) (w : World) : Gives Try.prog 29 #[.agg #[.int .i64 n1, .int .i64 i1, .int .i64 h1], .agg #[.int .i64 n2, .int .i64 i2, .int .i64 h2]] w (.int .i64 (cmpC i1 h1 i2 h2)) := by
  unfold Gives
  by_cases q0 : h1 = 4 <;> by_cases q1 : h2 = 4 <;> by_cases q2 : i1 = i2
  all_goals try (exfalso; omega)
  all_goals first | (have HH : Hid (cmpC i1 h1 i2 h2 = 0) := Lib.hid (by unfold cmpC; rw [if_pos (by omega), if_pos (by omega)])) | (have HH : Hid (cmpC i1 h1 i2 h2 = 1) := Lib.hid (by unfold cmpC; rw [if_pos (by omega), if_neg (by omega)])) | (have HH : Hid (cmpC i1 h1 i2 h2 = -1) := Lib.hid (by unfold cmpC; rw [if_neg (by omega), if_pos (by omega)])) | (have HH : Hid (cmpC i1 h1 i2 h2 = Lib.compareInt h1 h2) := Lib.hid (by unfold cmpC; rw [if_neg (by omega), if_neg (by omega), (show Lib.compareInt i1 i2 = 0 by unfold Lib.compareInt; rw [if_neg (by omega), if_neg (by omega)])]; simp [orI])) | (have HH : Hid (cmpC i1 h1 i2 h2 = Lib.compareInt i1 i2) := Lib.hid (by unfold cmpC; rw [if_neg (by omega), if_neg (by omega)]; unfold orI Lib.compareInt; rw [if_pos]; split <;> (try split) <;> omega))
  all_goals try (first | (have e1 : ((h1 : Int) == 4) = true := by first | exact beq_iff_eq.2 (by omega) | (rw [bne_iff_ne]; omega)) | (have e1 : ((h1 : Int) == 4) = false := by first | exact beq_eq_false_iff_ne.2 (by omega) | exact bne_eq_false_iff_eq.2 (by omega)))
  all_goals try (first | (have e2 : ((h2 : Int) == 4) = true := by first | exact beq_iff_eq.2 (by omega) | (rw [bne_iff_ne]; omega)) | (have e2 : ((h2 : Int) == 4) = false := by first | exact beq_eq_false_iff_ne.2 (by omega) | exact bne_eq_false_iff_eq.2 (by omega)))
  all_goals try (first | (have e3 : ((i1 : Int) != i2) = true := by first | exact beq_iff_eq.2 (by omega) | (rw [bne_iff_ne]; omega)) | (have e3 : ((i1 : Int) != i2) = false := by first | exact beq_eq_false_iff_ne.2 (by omega) | exact bne_eq_false_iff_eq.2 (by omega)))
  all_goals clear q0 q1 q2
  all_goals
    go_enter Try.func29, Try.ntmps29
    go_wp2
    refine wp_region_later (by kernel_rfl) (by kernel_rfl) ?_
    repeat (go_big_quiet_step (fail))
    refine wpQuiet_nil ?_
    rintro _ ⟨x1, rfl⟩
    go_wp2_with (go_at_call 40; refine Gives.mono' (refCmp_any _ _ _) ?_; intro x)
    all_goals (go_ret; exact ⟨by rw [HH.out]; first | rfl | (simp [go_sem]; omega), Later.ex (by repeat (first | exact ext_refl _ | refine ext_alloc ?_ _ | refine ext_later ?_ _ | refine ext_drew ?_ | refine ext_drewN ?_ _))⟩)
end Go.Proofs.Ytlcmehighgmoeaa
