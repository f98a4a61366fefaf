/- Package health and the reference's answers on claims: what each function gives. -/
import Derived.Test.YtbdhnmjmbbahhaaDoorLater
import Derived.Test.YtbdhnmjmbbahhaaDoorRows
import Derived.Test.YtbdhnmjmbbahhaaDoorShelf
import Derived.StillTailTactics
namespace Go.Proofs.YtbdhnmjmbbahhaaDoor
open Go Go.RowKit

def orI (a b : Int) : Int := if a ≠ 0 then a else b
def cmpC (i1 h1 i2 h2 : Int) : Int := if h1 = 4 then (if h2 = 4 then 0 else 1) else if h2 = 4 then -1 else orI (Lib.compareInt i1 i2) (Lib.compareInt h1 h2)

set_option maxHeartbeats 400000 in
theorem or_two (b : Nat) (x y : Int) (w : World) (h0 : w.cell? ⟨b, 0, none⟩ = some (.int .i64 x)) (h1 : w.cell? ⟨b, 1, none⟩ = some (.int .i64 y)) :
    Calls Tryd.prog 26 #[.slice (some ⟨b, 0, none⟩) 2 2] w fun e w' => e = .returned (.int .i64 (orI x y)) ∧ w = w' := by
  by_cases hx : x = 0
  · have e1 : (x == 0) = true := by simp [hx]
    have e2 : (x != 0) = false := by simp [hx]
    have H : Hid (orI x y = y) := Lib.hid (by simp [orI, hx])
    clear hx
    by_cases hy : y = 0
    · have e3 : (y != 0) = false := by simp [hy]
      have H2 : Hid (y = 0) := Lib.hid hy
      clear hy
      go_enter Tryd.func26, Tryd.ntmps26
      go_wp2
      go_rounds 3
      all_goals go_ret
      all_goals exact ⟨by rw [H.out, H2.out]; rfl, rfl⟩
    · have e3 : (y != 0) = true := by simp [hy]
      clear hy
      go_enter Tryd.func26, Tryd.ntmps26
      go_wp2
      go_rounds 3
      all_goals go_ret
      all_goals exact ⟨by rw [H.out]; rfl, rfl⟩
  · have e2 : (x != 0) = true := by simp [hx]
    have H : Hid (orI x y = x) := Lib.hid (by simp [orI, hx])
    clear hx
    go_enter Tryd.func26, Tryd.ntmps26
    go_wp2
    go_rounds 3
    all_goals go_ret
    all_goals exact ⟨by rw [H.out]; rfl, rfl⟩

set_option maxHeartbeats 400000 in
theorem compare_any (n1 i1 h1 n2 i2 h2 : Int) (w : World) : Gives Tryd.prog 14 #[.agg #[.int .i64 n1, .int .i64 i1, .int .i64 h1], .agg #[.int .i64 n2, .int .i64 i2, .int .i64 h2]] w (.int .i64 (cmpC i1 h1 i2 h2)) := by
  unfold Gives
  by_cases ha : h1 = 4
  · by_cases hb : h2 = 4
    · have e1 : ((h1 : Int) == 4) = true := by simp [ha]
      have e2 : ((h2 : Int) == 4) = true := by simp [hb]
      have H : Hid (cmpC i1 h1 i2 h2 = 0) := Lib.hid (by simp [cmpC, ha, hb])
      clear ha hb
      go_enter Tryd.func14, Tryd.ntmps14
      go_wp2
      refine wp_region_later (by kernel_rfl) (by kernel_rfl) ?_
      repeat (go_big_quiet_step (fail))
      refine wpQuiet_nil ?_
      rintro _ ⟨x1, rfl⟩
      go_wp2
      all_goals go_ret
      all_goals exact ⟨by rw [H.out]; rfl, Later.ex (by repeat (first | exact ext_refl _ | refine ext_alloc ?_ _ | refine ext_later ?_ _ | refine ext_drew ?_ | refine ext_drewN ?_ _))⟩
    · have e1 : ((h1 : Int) == 4) = true := by simp [ha]
      have e2 : ((h2 : Int) == 4) = false := by simp [hb]
      have H : Hid (cmpC i1 h1 i2 h2 = 1) := Lib.hid (by simp [cmpC, ha, hb])
      clear ha hb
      go_enter Tryd.func14, Tryd.ntmps14
      go_wp2
      refine wp_region_later (by kernel_rfl) (by kernel_rfl) ?_
      repeat (go_big_quiet_step (fail))
      refine wpQuiet_nil ?_
      rintro _ ⟨x1, rfl⟩
      go_wp2
      all_goals go_ret
      all_goals exact ⟨by rw [H.out]; rfl, Later.ex (by repeat (first | exact ext_refl _ | refine ext_alloc ?_ _ | refine ext_later ?_ _ | refine ext_drew ?_ | refine ext_drewN ?_ _))⟩
  · by_cases hb : h2 = 4
    · have e1 : ((h1 : Int) == 4) = false := by simp [ha]
      have e2 : ((h2 : Int) == 4) = true := by simp [hb]
      have H : Hid (cmpC i1 h1 i2 h2 = -1) := Lib.hid (by simp [cmpC, ha, hb])
      clear ha hb
      go_enter Tryd.func14, Tryd.ntmps14
      go_wp2
      refine wp_region_later (by kernel_rfl) (by kernel_rfl) ?_
      repeat (go_big_quiet_step (fail))
      refine wpQuiet_nil ?_
      rintro _ ⟨x1, rfl⟩
      go_wp2
      all_goals go_ret
      all_goals exact ⟨by rw [H.out]; rfl, Later.ex (by repeat (first | exact ext_refl _ | refine ext_alloc ?_ _ | refine ext_later ?_ _ | refine ext_drew ?_ | refine ext_drewN ?_ _))⟩
    · have e1 : ((h1 : Int) == 4) = false := by simp [ha]
      have e2 : ((h2 : Int) == 4) = false := by simp [hb]
      have H : Hid (cmpC i1 h1 i2 h2 = orI (Lib.compareInt i1 i2) (Lib.compareInt h1 h2)) := Lib.hid (by simp [cmpC, ha, hb])
      clear ha hb
      go_enter Tryd.func14, Tryd.ntmps14
      go_wp2
      refine wp_region_later (by kernel_rfl) (by kernel_rfl) ?_
      repeat (go_big_quiet_step (fail))
      refine wpQuiet_nil ?_
      rintro _ ⟨x1, rfl⟩
      go_wp2
      go_still_tail 10, (by kernel_rfl)
      repeat (first | still_step | still_call (Tryd.cmp_Compare_int _ _ _))
      refine wpStill_nil ?_
      change wpList _ _ _ _ _ (World.drew _)
      go_wp2_with fail
      refine (or_two _ (Lib.compareInt i1 i2) (Lib.compareInt h1 h2) _ ?c0 ?c1).mono ?_
      case c0 => simp
      case c1 => simp
      rintro e _ ⟨rfl, rfl⟩
      go_wp2
      all_goals go_ret
      all_goals exact ⟨by rw [H.out]; rfl, Later.ex (by repeat (first | exact ext_refl _ | refine ext_alloc ?_ _ | refine ext_later ?_ _ | refine ext_drew ?_ | refine ext_drewN ?_ _))⟩

def nodeB (n : Int) : Bool := decide (0 ≤ n ∧ n < 8)
def incB (i : Int) : Bool := decide (0 ≤ i ∧ i ≤ 1000000)
def accB (h : Int) : Bool := decide (h = 2 ∨ h = 3)
def nothingB (i h : Int) : Bool := decide (i = 0 ∧ h = 0)
def mayB (n i h : Int) : Bool := decide ((0 ≤ n ∧ n < 8) ∧ ((i = 0 ∧ h = 0) ∨ ((0 ≤ i ∧ i ≤ 1000000) ∧ 1 ≤ h ∧ h ≤ 4)))

set_option maxHeartbeats 400000 in
theorem isNode_any (n : Int) (w : World) : Gives Tryd.prog 20 #[.int .i64 n] w (.bool (nodeB n)) := by
  unfold Gives
  by_cases q0 : 0 ≤ n <;> by_cases q1 : n < 8
  all_goals try (exfalso; omega)
  all_goals first | (have H : Hid (nodeB n = true) := Lib.hid (by simp [nodeB]; omega)) | (have H : Hid (nodeB n = false) := Lib.hid (by simp [nodeB]; omega))
  all_goals
    go_enter Tryd.func20, Tryd.ntmps20
    go_wp2
    all_goals go_ret
    all_goals exact ⟨by rw [H.out]; rfl, Later.ex (by repeat (first | exact ext_refl _ | refine ext_alloc ?_ _ | refine ext_later ?_ _ | refine ext_drew ?_ | refine ext_drewN ?_ _))⟩

set_option maxHeartbeats 400000 in
theorem refNode_any (n : Int) (w : World) : Gives Tryd.prog 19 #[.int .i64 n] w (.bool (nodeB n)) := by
  unfold Gives
  by_cases q0 : 0 ≤ n <;> by_cases q1 : n < 8
  all_goals try (exfalso; omega)
  all_goals first | (have H : Hid (nodeB n = true) := Lib.hid (by simp [nodeB]; omega)) | (have H : Hid (nodeB n = false) := Lib.hid (by simp [nodeB]; omega))
  all_goals
    go_enter Tryd.func19, Tryd.ntmps19
    go_wp2
    all_goals go_ret
    all_goals exact ⟨by rw [H.out]; rfl, Later.ex (by repeat (first | exact ext_refl _ | refine ext_alloc ?_ _ | refine ext_later ?_ _ | refine ext_drew ?_ | refine ext_drewN ?_ _))⟩

set_option maxHeartbeats 400000 in
theorem isInc_any (n : Int) (w : World) : Gives Tryd.prog 21 #[.int .i64 n] w (.bool (incB n)) := by
  unfold Gives
  by_cases q0 : 0 ≤ n <;> by_cases q1 : n ≤ 1000000
  all_goals try (exfalso; omega)
  all_goals first | (have H : Hid (incB n = true) := Lib.hid (by simp [incB]; omega)) | (have H : Hid (incB n = false) := Lib.hid (by simp [incB]; omega))
  all_goals
    go_enter Tryd.func21, Tryd.ntmps21
    go_wp2
    all_goals go_ret
    all_goals exact ⟨by rw [H.out]; rfl, Later.ex (by repeat (first | exact ext_refl _ | refine ext_alloc ?_ _ | refine ext_later ?_ _ | refine ext_drew ?_ | refine ext_drewN ?_ _))⟩

set_option maxHeartbeats 400000 in
theorem accuses_any (n i h : Int) (w : World) : Gives Tryd.prog 22 #[.agg #[.int .i64 n, .int .i64 i, .int .i64 h]] w (.bool (accB h)) := by
  unfold Gives
  by_cases q0 : h = 2 <;> by_cases q1 : h = 3
  all_goals try (exfalso; omega)
  all_goals first | (have H : Hid (accB h = true) := Lib.hid (by simp [accB]; omega)) | (have H : Hid (accB h = false) := Lib.hid (by simp [accB]; omega))
  all_goals first | (have eq0 : ((h : Int) == 2) = true := by simp [q0]) | (have eq0 : ((h : Int) == 2) = false := by simp [q0])
  all_goals first | (have eq1 : ((h : Int) == 3) = true := by simp [q1]) | (have eq1 : ((h : Int) == 3) = false := by simp [q1])
  all_goals clear q0 q1
  all_goals
    go_enter Tryd.func22, Tryd.ntmps22
    go_wp2
    all_goals go_ret
    all_goals exact ⟨by rw [H.out]; rfl, Later.ex (by repeat (first | exact ext_refl _ | refine ext_alloc ?_ _ | refine ext_later ?_ _ | refine ext_drew ?_ | refine ext_drewN ?_ _))⟩

set_option maxHeartbeats 400000 in
theorem refNothing_any (n i h : Int) (w : World) : Gives Tryd.prog 25 #[.agg #[.int .i64 n, .int .i64 i, .int .i64 h]] w (.bool (nothingB i h)) := by
  unfold Gives
  by_cases q0 : i = 0 <;> by_cases q1 : h = 0
  all_goals try (exfalso; omega)
  all_goals first | (have H : Hid (nothingB i h = true) := Lib.hid (by simp [nothingB]; omega)) | (have H : Hid (nothingB i h = false) := Lib.hid (by simp [nothingB]; omega))
  all_goals first | (have eq0 : ((i : Int) == 0) = true := by simp [q0]) | (have eq0 : ((i : Int) == 0) = false := by simp [q0])
  all_goals first | (have eq1 : ((h : Int) == 0) = true := by simp [q1]) | (have eq1 : ((h : Int) == 0) = false := by simp [q1])
  all_goals clear q0 q1
  all_goals
    go_enter Tryd.func25, Tryd.ntmps25
    go_wp2
    all_goals go_ret
    all_goals exact ⟨by rw [H.out]; rfl, Later.ex (by repeat (first | exact ext_refl _ | refine ext_alloc ?_ _ | refine ext_later ?_ _ | refine ext_drew ?_ | refine ext_drewN ?_ _))⟩

set_option maxHeartbeats 400000 in
theorem saysNothing_any (n i h : Int) (w : World) : Gives Tryd.prog 24 #[.agg #[.int .i64 n, .int .i64 i, .int .i64 h]] w (.bool (nothingB i h)) := by
  unfold Gives
  by_cases q0 : i = 0 <;> by_cases q1 : h = 0
  all_goals try (exfalso; omega)
  all_goals first | (have H : Hid (nothingB i h = true) := Lib.hid (by simp [nothingB]; omega)) | (have H : Hid (nothingB i h = false) := Lib.hid (by simp [nothingB]; omega))
  all_goals first | (have eq0 : ((i : Int) == 0) = true := by simp [q0]) | (have eq0 : ((i : Int) == 0) = false := by simp [q0])
  all_goals first | (have eq1 : ((h : Int) == 0) = true := by simp [q1]) | (have eq1 : ((h : Int) == 0) = false := by simp [q1])
  all_goals clear q0 q1
  all_goals
    go_enter Tryd.func24, Tryd.ntmps24
    go_wp2
    all_goals go_ret
    all_goals exact ⟨by rw [H.out]; rfl, Later.ex (by repeat (first | exact ext_refl _ | refine ext_alloc ?_ _ | refine ext_later ?_ _ | refine ext_drew ?_ | refine ext_drewN ?_ _))⟩
end Go.Proofs.YtbdhnmjmbbahhaaDoor
