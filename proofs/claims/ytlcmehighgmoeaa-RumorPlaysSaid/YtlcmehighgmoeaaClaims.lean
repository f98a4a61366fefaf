/- Package health: what Compare and May give, and the order of claims. -/
import Derived.Test.YtlcmehighgmoeaaLater
import Derived.Test.YtlcmehighgmoeaaProg
import Derived.Lib.Small
import Derived.StillTailTactics
namespace Go.Proofs.Ytlcmehighgmoeaa
open Go Go.RowKit

def orI (a b : Int) : Int := if a ≠ 0 then a else b
def cmpC (i1 h1 i2 h2 : Int) : Int := if h1 = 4 then (if h2 = 4 then 0 else 1) else if h2 = 4 then -1 else orI (Lib.compareInt i1 i2) (Lib.compareInt h1 h2)

set_option maxHeartbeats 400000 in
theorem isNaN_int (x : Int) (w : World) : Calls Try.prog 41 #[.int .i64 x] w fun e w' => e = .returned (.bool false) ∧ w' = w := by
  have e1 : (x != x) = false := by simp
  go_enter Try.func41, Try.ntmps41
  go_wp2
  all_goals go_ret
  all_goals exact ⟨by first | rfl | simp, rfl⟩

set_option maxHeartbeats 400000 in
theorem cmp_Compare_int (x y : Int) (w : World) : Calls Try.prog 34 #[.int .i64 x, .int .i64 y] w fun e w' => e = .returned (.int .i64 (Lib.compareInt x y)) ∧ w' = w := by
  rcases Int.lt_trichotomy x y with h | h | h
  · have H : Hid (Lib.compareInt x y = -1) := Lib.hid (by simp [Lib.compareInt, h])
    go_enter Try.func34, Try.ntmps34
    go_wp2_with (go_at_call 41; refine (isNaN_int _ _).mono ?_; rintro e w' ⟨rfl, rfl⟩)
    all_goals go_ret
    all_goals exact ⟨by rw [H.out]; rfl, rfl⟩
  · have H : Hid (Lib.compareInt x y = 0) := Lib.hid (by simp [Lib.compareInt, h])
    have h1 : x ≤ y := by omega
    have h2 : y ≤ x := by omega
    clear h
    go_enter Try.func34, Try.ntmps34
    go_wp2_with (go_at_call 41; refine (isNaN_int _ _).mono ?_; rintro e w' ⟨rfl, rfl⟩)
    all_goals go_ret
    all_goals exact ⟨by rw [H.out]; rfl, rfl⟩
  · have H : Hid (Lib.compareInt x y = 1) := Lib.hid (by unfold Lib.compareInt; rw [if_neg (by omega), if_pos (by omega)])
    have h1 : y ≤ x := by omega
    go_enter Try.func34, Try.ntmps34
    go_wp2_with (go_at_call 41; refine (isNaN_int _ _).mono ?_; rintro e w' ⟨rfl, rfl⟩)
    all_goals go_ret
    all_goals exact ⟨by rw [H.out]; rfl, rfl⟩

set_option maxHeartbeats 400000 in
theorem or_two (b : Nat) (x y : Int) (w : World) (h0 : w.cell? ⟨b, 0, none⟩ = some (.int .i64 x)) (h1 : w.cell? ⟨b, 1, none⟩ = some (.int .i64 y)) :
    Calls Try.prog 33 #[.slice (some ⟨b, 0, none⟩) 2 2] w fun e w' => e = .returned (.int .i64 (orI x y)) ∧ w = w' := by
  by_cases hx : x = 0
  · have e1 : (x == 0) = true := by simp [hx]
    have e2 : (x != 0) = false := by simp [hx]
    have H : Hid (orI x y = y) := Lib.hid (by simp [orI, hx])
    clear hx
    by_cases hy : y = 0
    · have e3 : (y != 0) = false := by simp [hy]
      have H2 : Hid (y = 0) := Lib.hid hy
      clear hy
      go_enter Try.func33, Try.ntmps33
      go_wp2
      go_rounds 3
      all_goals go_ret
      all_goals exact ⟨by rw [H.out, H2.out]; rfl, rfl⟩
    · have e3 : (y != 0) = true := by simp [hy]
      clear hy
      go_enter Try.func33, Try.ntmps33
      go_wp2
      go_rounds 3
      all_goals go_ret
      all_goals exact ⟨by rw [H.out]; rfl, rfl⟩
  · have e2 : (x != 0) = true := by simp [hx]
    have H : Hid (orI x y = x) := Lib.hid (by simp [orI, hx])
    clear hx
    go_enter Try.func33, Try.ntmps33
    go_wp2
    go_rounds 3
    all_goals go_ret
    all_goals exact ⟨by rw [H.out]; rfl, rfl⟩

set_option maxHeartbeats 400000 in
theorem compare_any (n1 i1 h1 n2 i2 h2 : Int) (w : World) : Gives Try.prog 22 #[.agg #[.int .i64 n1, .int .i64 i1, .int .i64 h1], .agg #[.int .i64 n2, .int .i64 i2, .int .i64 h2]] w (.int .i64 (cmpC i1 h1 i2 h2)) := by
  unfold Gives
  by_cases ha : h1 = 4
  · by_cases hb : h2 = 4
    · have e1 : ((h1 : Int) == 4) = true := by simp [ha]
      have e2 : ((h2 : Int) == 4) = true := by simp [hb]
      have H : Hid (cmpC i1 h1 i2 h2 = 0) := Lib.hid (by simp [cmpC, ha, hb])
      clear ha hb
      go_enter Try.func22, Try.ntmps22
      go_wp2
      refine wp_region_later (by kernel_rfl) (by kernel_rfl) ?_
      repeat (go_big_quiet_step (fail))
      refine wpQuiet_nil ?_
      rintro _ ⟨x1, rfl⟩
      go_wp2
      all_goals go_ret
      all_goals exact ⟨by rw [H.out]; rfl, Later.ex (by repeat (first | exact ext_refl _ | refine ext_alloc ?_ _ | refine ext_later ?_ _ | refine ext_drew ?_ | refine ext_drewN ?_ _))⟩
    · have e1 : ((h1 : Int) == 4) = true := by simp [ha]
      have e2 : ((h2 : Int) == 4) = false := by simp [hb]
      have H : Hid (cmpC i1 h1 i2 h2 = 1) := Lib.hid (by simp [cmpC, ha, hb])
      clear ha hb
      go_enter Try.func22, Try.ntmps22
      go_wp2
      refine wp_region_later (by kernel_rfl) (by kernel_rfl) ?_
      repeat (go_big_quiet_step (fail))
      refine wpQuiet_nil ?_
      rintro _ ⟨x1, rfl⟩
      go_wp2
      all_goals go_ret
      all_goals exact ⟨by rw [H.out]; rfl, Later.ex (by repeat (first | exact ext_refl _ | refine ext_alloc ?_ _ | refine ext_later ?_ _ | refine ext_drew ?_ | refine ext_drewN ?_ _))⟩
  · by_cases hb : h2 = 4
    · have e1 : ((h1 : Int) == 4) = false := by simp [ha]
      have e2 : ((h2 : Int) == 4) = true := by simp [hb]
      have H : Hid (cmpC i1 h1 i2 h2 = -1) := Lib.hid (by simp [cmpC, ha, hb])
      clear ha hb
      go_enter Try.func22, Try.ntmps22
      go_wp2
      refine wp_region_later (by kernel_rfl) (by kernel_rfl) ?_
      repeat (go_big_quiet_step (fail))
      refine wpQuiet_nil ?_
      rintro _ ⟨x1, rfl⟩
      go_wp2
      all_goals go_ret
      all_goals exact ⟨by rw [H.out]; rfl, Later.ex (by repeat (first | exact ext_refl _ | refine ext_alloc ?_ _ | refine ext_later ?_ _ | refine ext_drew ?_ | refine ext_drewN ?_ _))⟩
    · have e1 : ((h1 : Int) == 4) = false := by simp [ha]
      have e2 : ((h2 : Int) == 4) = false := by simp [hb]
      have H : Hid (cmpC i1 h1 i2 h2 = orI (Lib.compareInt i1 i2) (Lib.compareInt h1 h2)) := Lib.hid (by simp [cmpC, ha, hb])
      clear ha hb
      go_enter Try.func22, Try.ntmps22
      go_wp2
      refine wp_region_later (by kernel_rfl) (by kernel_rfl) ?_
      repeat (go_big_quiet_step (fail))
      refine wpQuiet_nil ?_
      rintro _ ⟨x1, rfl⟩
      go_wp2
      go_still_tail 10, (by kernel_rfl)
      repeat (first | still_step | still_call (cmp_Compare_int _ _ _))
      refine wpStill_nil ?_
      change wpList _ _ _ _ _ (World.drew _)
      go_wp2_with fail
      refine (or_two _ (Lib.compareInt i1 i2) (Lib.compareInt h1 h2) _ ?c0 ?c1).mono ?_
      case c0 => simp
      case c1 => simp
      rintro e _ ⟨rfl, rfl⟩
      go_wp2
      all_goals go_ret
      all_goals exact ⟨by rw [H.out]; rfl, Later.ex (by repeat (first | exact ext_refl _ | refine ext_alloc ?_ _ | refine ext_later ?_ _ | refine ext_drew ?_ | refine ext_drewN ?_ _))⟩

def nodeB (n : Int) : Bool := decide (0 ≤ n ∧ n < 8)
def incB (i : Int) : Bool := decide (0 ≤ i ∧ i ≤ 1000000)
def accB (h : Int) : Bool := decide (h = 2 ∨ h = 3)
def nothingB (i h : Int) : Bool := decide (i = 0 ∧ h = 0)
def mayB (n i h : Int) : Bool := decide ((0 ≤ n ∧ n < 8) ∧ ((i = 0 ∧ h = 0) ∨ ((0 ≤ i ∧ i ≤ 1000000) ∧ 1 ≤ h ∧ h ≤ 4)))

set_option maxHeartbeats 400000 in
theorem isNode_any (n : Int) (w : World) : Gives Try.prog 30 #[.int .i64 n] w (.bool (nodeB n)) := by
  unfold Gives
  by_cases q0 : 0 ≤ n <;> by_cases q1 : n < 8
  all_goals try (exfalso; omega)
  all_goals first | (have H : Hid (nodeB n = true) := Lib.hid (by simp [nodeB]; omega)) | (have H : Hid (nodeB n = false) := Lib.hid (by simp [nodeB]; omega))
  all_goals
    go_enter Try.func30, Try.ntmps30
    go_wp2
    all_goals go_ret
    all_goals exact ⟨by rw [H.out]; rfl, Later.ex (by repeat (first | exact ext_refl _ | refine ext_alloc ?_ _ | refine ext_later ?_ _ | refine ext_drew ?_ | refine ext_drewN ?_ _))⟩

set_option maxHeartbeats 400000 in
theorem isInc_any (n : Int) (w : World) : Gives Try.prog 32 #[.int .i64 n] w (.bool (incB n)) := by
  unfold Gives
  by_cases q0 : 0 ≤ n <;> by_cases q1 : n ≤ 1000000
  all_goals try (exfalso; omega)
  all_goals first | (have H : Hid (incB n = true) := Lib.hid (by simp [incB]; omega)) | (have H : Hid (incB n = false) := Lib.hid (by simp [incB]; omega))
  all_goals
    go_enter Try.func32, Try.ntmps32
    go_wp2
    all_goals go_ret
    all_goals exact ⟨by rw [H.out]; rfl, Later.ex (by repeat (first | exact ext_refl _ | refine ext_alloc ?_ _ | refine ext_later ?_ _ | refine ext_drew ?_ | refine ext_drewN ?_ _))⟩

set_option maxHeartbeats 400000 in
theorem saysNothing_any (n i h : Int) (w : World) : Gives Try.prog 31 #[.agg #[.int .i64 n, .int .i64 i, .int .i64 h]] w (.bool (nothingB i h)) := by
  unfold Gives
  by_cases q0 : i = 0 <;> by_cases q1 : h = 0
  all_goals try (exfalso; omega)
  all_goals first | (have H : Hid (nothingB i h = true) := Lib.hid (by simp [nothingB]; omega)) | (have H : Hid (nothingB i h = false) := Lib.hid (by simp [nothingB]; omega))
  all_goals first | (have eq0 : ((i : Int) == 0) = true := by simp [q0]) | (have eq0 : ((i : Int) == 0) = false := by simp [q0])
  all_goals first | (have eq1 : ((h : Int) == 0) = true := by simp [q1]) | (have eq1 : ((h : Int) == 0) = false := by simp [q1])
  all_goals clear q0 q1
  all_goals
    go_enter Try.func31, Try.ntmps31
    go_wp2
    all_goals go_ret
    all_goals exact ⟨by rw [H.out]; rfl, Later.ex (by repeat (first | exact ext_refl _ | refine ext_alloc ?_ _ | refine ext_later ?_ _ | refine ext_drew ?_ | refine ext_drewN ?_ _))⟩

set_option maxHeartbeats 400000 in
theorem may_any (n i h : Int) (w : World) : Gives Try.prog 21 #[.agg #[.int .i64 n, .int .i64 i, .int .i64 h]] w (.bool (mayB n i h)) := by
  unfold Gives
  rcases (show (¬ (0 ≤ n ∧ n < 8)) ∨ ((0 ≤ n ∧ n < 8) ∧ h = 0 ∧ i = 0) ∨ ((0 ≤ n ∧ n < 8) ∧ h = 0 ∧ i ≠ 0) ∨ ((0 ≤ n ∧ n < 8) ∧ h ≠ 0 ∧ ¬ (0 ≤ i ∧ i ≤ 1000000)) ∨ ((0 ≤ n ∧ n < 8) ∧ h ≠ 0 ∧ (0 ≤ i ∧ i ≤ 1000000) ∧ h < 1) ∨ ((0 ≤ n ∧ n < 8) ∧ h ≠ 0 ∧ (0 ≤ i ∧ i ≤ 1000000) ∧ 1 ≤ h ∧ 4 < h) ∨ ((0 ≤ n ∧ n < 8) ∧ h ≠ 0 ∧ (0 ≤ i ∧ i ≤ 1000000) ∧ 1 ≤ h ∧ h ≤ 4) from by omega) with q | q | q | q | q | q | q
  all_goals first | (have HH : Hid (mayB n i h = true) := Lib.hid (by simp only [mayB, decide_eq_true_eq]; omega)) | (have HH : Hid (mayB n i h = false) := Lib.hid (by simp only [mayB, decide_eq_false_iff_not]; omega))
  all_goals try (first | (have HN : Hid (∀ w, Gives Try.prog 30 #[.int .i64 n] w (.bool true)) := Lib.hid (fun w => (isNode_any n w).cast (by rw [show nodeB n = true from by simp only [nodeB, decide_eq_true_eq]; omega]))) | (have HN : Hid (∀ w, Gives Try.prog 30 #[.int .i64 n] w (.bool false)) := Lib.hid (fun w => (isNode_any n w).cast (by rw [show nodeB n = false from by simp only [nodeB, decide_eq_false_iff_not]; omega]))))
  all_goals try (first | (have HS : Hid (∀ w, Gives Try.prog 31 #[.agg #[.int .i64 n, .int .i64 i, .int .i64 h]] w (.bool true)) := Lib.hid (fun w => (saysNothing_any n i h w).cast (by rw [show nothingB i h = true from by simp only [nothingB, decide_eq_true_eq]; omega]))) | (have HS : Hid (∀ w, Gives Try.prog 31 #[.agg #[.int .i64 n, .int .i64 i, .int .i64 h]] w (.bool false)) := Lib.hid (fun w => (saysNothing_any n i h w).cast (by rw [show nothingB i h = false from by simp only [nothingB, decide_eq_false_iff_not]; omega]))))
  all_goals try (first | (have HI : Hid (∀ w, Gives Try.prog 32 #[.int .i64 i] w (.bool true)) := Lib.hid (fun w => (isInc_any i w).cast (by rw [show incB i = true from by simp only [incB, decide_eq_true_eq]; omega]))) | (have HI : Hid (∀ w, Gives Try.prog 32 #[.int .i64 i] w (.bool false)) := Lib.hid (fun w => (isInc_any i w).cast (by rw [show incB i = false from by simp only [incB, decide_eq_false_iff_not]; omega]))))
  all_goals try (first | (have e1 : ((h : Int) == 0) = true := by first | exact beq_iff_eq.2 (by omega) | (rw [bne_iff_ne]; omega)) | (have e1 : ((h : Int) == 0) = false := by first | exact beq_eq_false_iff_ne.2 (by omega) | exact bne_eq_false_iff_eq.2 (by omega)))
  all_goals first | (have l1 : 1 ≤ h := by omega) | (have l1 : h < 1 := by omega) | skip
  all_goals first | (have l2 : h ≤ 4 := by omega) | (have l2 : 4 < h := by omega) | skip
  all_goals clear q
  all_goals
    go_enter Try.func21, Try.ntmps21
    go_wp2_with (first | (go_at_call 30; (first | (with_reducible refine Gives.on (HN.out _) ?_) | (refine Gives.mono' (HN.out _) ?_)); intro x) | (go_at_call 31; (first | (with_reducible refine Gives.on (HS.out _) ?_) | (refine Gives.mono' (HS.out _) ?_)); intro x) | (go_at_call 32; (first | (with_reducible refine Gives.on (HI.out _) ?_) | (refine Gives.mono' (HI.out _) ?_)); intro x))
    all_goals (go_ret; exact ⟨by rw [HH.out]; first | rfl | (simp [go_sem]; omega), Later.ex (by repeat (first | exact ext_refl _ | refine ext_alloc ?_ _ | refine ext_later ?_ _ | refine ext_drew ?_ | refine ext_drewN ?_ _))⟩)

theorem orI_neg (a b a' b' : Int) (ha : a' = -a) (hb : b' = -b) : orI a' b' = -(orI a b) := by
  unfold orI; by_cases h : a = 0
  · simp [h, ha, hb]
  · rw [if_pos (by omega), if_pos h, ha]
theorem cmpI_neg (a b : Int) : Lib.compareInt b a = -(Lib.compareInt a b) := by unfold Lib.compareInt; split <;> split <;> (try split) <;> omega
theorem cmpC_neg (i1 h1 i2 h2 : Int) : cmpC i2 h2 i1 h1 = -(cmpC i1 h1 i2 h2) := by
  unfold cmpC
  by_cases a : h1 = 4
  · by_cases b : h2 = 4
    · rw [if_pos b, if_pos a, if_pos a, if_pos b]; rfl
    · rw [if_neg b, if_pos a, if_pos a, if_neg b]
  · by_cases b : h2 = 4
    · rw [if_pos b, if_neg a, if_neg a, if_pos b]; rfl
    · rw [if_neg b, if_neg a, if_neg a, if_neg b]
      exact orI_neg _ _ _ _ (cmpI_neg _ _) (cmpI_neg _ _)
theorem cmpI_spec (a b : Int) : (a < b ∧ Lib.compareInt a b = -1) ∨ (a = b ∧ Lib.compareInt a b = 0) ∨ (b < a ∧ Lib.compareInt a b = 1) := by
  unfold Lib.compareInt; split <;> (try split) <;> omega
/-- The order, as three ways. -/
theorem cmpC_spec (i1 h1 i2 h2 : Int) : cmpC i1 h1 i2 h2 = (if h1 = 4 then (if h2 = 4 then 0 else 1) else if h2 = 4 then -1 else if i1 < i2 then -1 else if i2 < i1 then 1 else if h1 < h2 then -1 else if h2 < h1 then 1 else 0) := by
  unfold cmpC
  split
  · rfl
  · split
    · rfl
    · rcases cmpI_spec i1 i2 with ⟨a, b⟩ | ⟨a, b⟩ | ⟨a, b⟩
      · rw [b, if_pos a]; rfl
      · rw [b, if_neg (by omega), if_neg (by omega)]
        show Lib.compareInt h1 h2 = _
        rfl
      · rw [b, if_neg (by omega), if_pos a]; rfl
theorem cmpC_self (i h : Int) : cmpC i h i h = 0 := by rw [cmpC_spec]; repeat' split <;> omega
theorem cmpC_range (i1 h1 i2 h2 : Int) : -1 ≤ cmpC i1 h1 i2 h2 ∧ cmpC i1 h1 i2 h2 ≤ 1 := by rw [cmpC_spec]; repeat' split <;> omega
theorem cmpC_le {i1 h1 i2 h2 : Int} : cmpC i1 h1 i2 h2 ≤ 0 ↔ (h2 = 4 ∨ (h1 ≠ 4 ∧ (i1 < i2 ∨ (i1 = i2 ∧ h1 ≤ h2)))) := by rw [cmpC_spec]; repeat' split <;> omega
theorem cmpC_lt {i1 h1 i2 h2 : Int} : cmpC i1 h1 i2 h2 < 0 ↔ (h1 ≠ 4 ∧ (h2 = 4 ∨ (i1 < i2 ∨ (i1 = i2 ∧ h1 < h2)))) := by rw [cmpC_spec]; repeat' split <;> omega
theorem cmpC_trans {i1 h1 i2 h2 i3 h3 : Int} (a : cmpC i1 h1 i2 h2 ≤ 0) (b : cmpC i2 h2 i3 h3 ≤ 0) : cmpC i1 h1 i3 h3 ≤ 0 := by rw [cmpC_le] at *; omega
theorem cmpC_trans_lt {i1 h1 i2 h2 i3 h3 : Int} (a : cmpC i1 h1 i2 h2 < 0) (b : cmpC i2 h2 i3 h3 ≤ 0) : cmpC i1 h1 i3 h3 < 0 := by rw [cmpC_lt] at *; rw [cmpC_le] at b; omega
end Go.Proofs.Ytlcmehighgmoeaa
