/- HealthOrder's walk: on three claims of any numbers Compare is an order. -/
import Derived.Test.YtbdhnmjmbbahhaaDoorHealth6
import Derived.Test.YtbdhnmjmbbahhaaDoorMath
namespace Go.Proofs.YtbdhnmjmbbahhaaDoor
open Go Go.RowKit

set_option maxHeartbeats 1000000 in
set_option maxRecDepth 100000 in
theorem order_walk (n1 i1 h1 n2 i2 h2 n3 i3 h3 x y z : Int) (e12 : cmpC i1 h1 i2 h2 = x) (e23 : cmpC i2 h2 i3 h3 = y) (e13 : cmpC i1 h1 i3 h3 = z) (r1 : -1 ≤ x) (r2 : x ≤ 1) (q : 0 < x ∨ (x = 0 ∧ 0 < y) ∨ (x = 0 ∧ y ≤ 0 ∧ z ≤ 0) ∨ (x < 0 ∧ 0 < y) ∨ (x < 0 ∧ y ≤ 0 ∧ z < 0)) (w : World) (ht : Tab w) : Gives Tryd.prog 4 #[.agg #[.int .i64 n1, .int .i64 i1, .int .i64 h1], .agg #[.int .i64 n2, .int .i64 i2, .int .i64 h2], .agg #[.int .i64 n3, .int .i64 i3, .int .i64 h3]] w (.bool true) := by
  unfold Gives
  have HT := Lib.hid ht
  have H12 : Hid (∀ w, Gives Tryd.prog 14 #[.agg #[.int .i64 n1, .int .i64 i1, .int .i64 h1], .agg #[.int .i64 n2, .int .i64 i2, .int .i64 h2]] w (.int .i64 x)) := Lib.hid (fun w => (compare_any _ _ _ _ _ _ w).cast (by rw [e12]))
  have H23 : Hid (∀ w, Gives Tryd.prog 14 #[.agg #[.int .i64 n2, .int .i64 i2, .int .i64 h2], .agg #[.int .i64 n3, .int .i64 i3, .int .i64 h3]] w (.int .i64 y)) := Lib.hid (fun w => (compare_any _ _ _ _ _ _ w).cast (by rw [e23]))
  have H13 : Hid (∀ w, Gives Tryd.prog 14 #[.agg #[.int .i64 n1, .int .i64 i1, .int .i64 h1], .agg #[.int .i64 n3, .int .i64 i3, .int .i64 h3]] w (.int .i64 z)) := Lib.hid (fun w => (compare_any _ _ _ _ _ _ w).cast (by rw [e13]))
  have H21 : Hid (∀ w, Gives Tryd.prog 14 #[.agg #[.int .i64 n2, .int .i64 i2, .int .i64 h2], .agg #[.int .i64 n1, .int .i64 i1, .int .i64 h1]] w (.int .i64 (-x))) := Lib.hid (fun w => (compare_any _ _ _ _ _ _ w).cast (by rw [cmpC_neg i1 h1 i2 h2, e12]))
  have H11 : Hid (∀ w, Gives Tryd.prog 14 #[.agg #[.int .i64 n1, .int .i64 i1, .int .i64 h1], .agg #[.int .i64 n1, .int .i64 i1, .int .i64 h1]] w (.int .i64 0)) := Lib.hid (fun w => (compare_any _ _ _ _ _ _ w).cast (by rw [cmpC_self]))
  have HA : Hid (∀ w, Tab w → Gives Tryd.prog 18 #[] w (.bool true)) := Lib.hid awake_any
  clear e12 e23 e13 ht
  have en : IntKind.i64.wrap (- -x) = x := by rw [Int.neg_neg]; exact IntWalk.i64_in _ (by omega)
  have ee : (x == x) = true := beq_self_eq_true x
  rcases q with q | ⟨q, q1⟩ | ⟨q, q1, q2⟩ | ⟨q, q1⟩ | ⟨q, q1, q2⟩
  all_goals first | subst q | skip
  all_goals
    go_enter Tryd.func4, Tryd.ntmps4
    go_wp2
    refine wp_region_later (by kernel_rfl) (by kernel_rfl) ?_
    repeat (go_big_quiet_step (first | (go_at_call 14; with_reducible exact later_of (H12.out _)) | (go_at_call 14; with_reducible exact later_of (H23.out _)) | (go_at_call 14; with_reducible exact later_of (H13.out _))))
    refine wpQuiet_nil ?_
    rintro _ ⟨x1, rfl⟩
    go_wp2_with (first | (go_at_call 14; (first | (with_reducible refine Gives.on (H21.out _) ?_) | (with_reducible refine Gives.on (H11.out _) ?_)); intro x2) | (go_at_call 18; (with_reducible refine Gives.on (HA.out _ (HT.out.later (by repeat (first | exact ext_refl _ | refine ext_alloc ?_ _ | refine ext_later ?_ _ | refine ext_drew ?_ | refine ext_drewN ?_ _)))) ?_); intro x2))
    all_goals (go_ret; exact ⟨by first | rfl | (simp; omega), Later.ex (by repeat (first | exact ext_refl _ | refine ext_alloc ?_ _ | refine ext_later ?_ _ | refine ext_drew ?_ | refine ext_drewN ?_ _))⟩)

theorem order_any (n1 i1 h1 n2 i2 h2 n3 i3 h3 : Int) (w : World) (ht : Tab w) : Gives Tryd.prog 4 #[.agg #[.int .i64 n1, .int .i64 i1, .int .i64 h1], .agg #[.int .i64 n2, .int .i64 i2, .int .i64 h2], .agg #[.int .i64 n3, .int .i64 i3, .int .i64 h3]] w (.bool true) := by
  have r := cmpC_range i1 h1 i2 h2
  refine order_walk n1 i1 h1 n2 i2 h2 n3 i3 h3 _ _ _ rfl rfl rfl r.1 r.2 ?_ w ht
  by_cases a : 0 < cmpC i1 h1 i2 h2
  · exact Or.inl a
  · by_cases b : 0 < cmpC i2 h2 i3 h3
    · omega
    · have t1 := cmpC_trans (Int.not_lt.1 a) (Int.not_lt.1 b)
      by_cases c : cmpC i1 h1 i2 h2 < 0
      · have t2 := cmpC_trans_lt c (Int.not_lt.1 b)
        omega
      · omega
end Go.Proofs.YtbdhnmjmbbahhaaDoor
