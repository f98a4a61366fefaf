/- HealthTexts's walk: two claims that may be have one text just if they are the same, but for those that left. -/
import Derived.Test.YtbdhnmjmbbahhaaDoorForms
import Derived.Test.YtbdhnmjmbbahhaaDoorTextMath
namespace Go.Proofs.YtbdhnmjmbbahhaaDoor
open Go Go.RowKit

theorem empty_facts {t : ByteArray} (h : 3 ≤ t.size) : (t.toList == (⟨#[]⟩ : ByteArray).toList) = false ∧ t.toList ≠ [] ∧ t.toList.isEmpty = false := by
  have hn : t.toList ≠ [] := by
    rw [ByteArray.toList_eq]
    intro e
    have : t.data.toList.length = 0 := by rw [e]; rfl
    have hs : t.size = t.data.toList.length := by rw [Array.length_toList]; rfl
    omega
  refine ⟨?_, hn, by simpa using hn⟩
  rw [beq_eq_false_iff_ne, ByteArray.toList_eq (⟨#[]⟩ : ByteArray)]
  exact hn

set_option maxHeartbeats 4000000 in
set_option maxRecDepth 100000 in
theorem texts_bad1 (n1 i1 h1 n2 i2 h2 : Int) (m1 : mayB n1 i1 h1 = false) (w : World) (ht : Tab w) : Gives Tryd.prog 8 #[.agg #[.int .i64 n1, .int .i64 i1, .int .i64 h1], .agg #[.int .i64 n2, .int .i64 i2, .int .i64 h2]] w (.bool true) := by
  unfold Gives
  have HT := Lib.hid ht
  have HA : Hid (∀ w, Tab w → Gives Tryd.prog 18 #[] w (.bool true)) := Lib.hid awake_any
  have HM : Hid (∀ w, Gives Tryd.prog 12 #[.agg #[.int .i64 n1, .int .i64 i1, .int .i64 h1]] w (.bool false)) := Lib.hid (fun w => (may_any n1 i1 h1 w).cast (by rw [m1]))
  have HU : Hid (∀ w, Tab w → Gives Tryd.prog 16 #[.agg #[.int .i64 n1, .int .i64 i1, .int .i64 h1]] w (.string ⟨#[]⟩)) := Lib.hid (fun w ht => (text_any n1 i1 h1 w ht).cast (by rw [textS_bad m1]))
  clear m1 ht
  go_enter Tryd.func8, Tryd.ntmps8
  go_wp2_with fail
  refine Gives.cut (fun W2 => ClaimAt W2 w.heap.size n1 i1 h1 ∧ ClaimAt W2 (w.heap.size + 1) n2 i2 h2 ∧ Below w.heap.size w W2) (HM.out _) ?hF ?_
  case hF =>
    intro x
    exact ⟨⟨by simp [go_sem], by simp [go_sem], by simp [go_sem], by simp [go_sem], by simp [go_sem], by simp [go_sem], by simp [go_sem]⟩, ⟨by simp [go_sem], by simp [go_sem], by simp [go_sem], by simp [go_sem], by simp [go_sem], by simp [go_sem], by simp [go_sem]⟩, (by repeat (first | exact ext_refl _ | refine ext_alloc ?_ _ | refine ext_later ?_ _ | refine ext_drew ?_ | refine ext_drewN ?_ _ | refine ext_setCell ?_ _ _ (by first | assumption | (dsimp only; omega)) | assumption))⟩
  rintro W2 ⟨⟨a0, a1, a2, a3, a5, a6, a7⟩, ⟨b0, b1, b2, b3, b5, b6, b7⟩, hb⟩
  go_wp2_with fail
  refine wp_region_later (by kernel_rfl) (by kernel_rfl) ?_
  repeat (go_big_quiet_step (first | (go_at_call 12; with_reducible exact later_of (HM.out _)) | (go_at_call 16; with_reducible exact later_of (HU.out _ (HT.out.later (by repeat (first | exact ext_refl _ | refine ext_alloc ?_ _ | refine ext_later ?_ _ | refine ext_drew ?_ | refine ext_drewN ?_ _ | refine ext_setCell ?_ _ _ (by first | assumption | (dsimp only; omega)) | assumption))))) | (go_at_call 18; with_reducible exact later_of (HA.out _ (HT.out.later (by repeat (first | exact ext_refl _ | refine ext_alloc ?_ _ | refine ext_later ?_ _ | refine ext_drew ?_ | refine ext_drewN ?_ _ | refine ext_setCell ?_ _ _ (by first | assumption | (dsimp only; omega)) | assumption)))))))
  refine wpQuiet_nil ?_
  rintro _ ⟨x9, rfl⟩
  go_wp2
  all_goals (go_ret; exact ⟨by first | rfl | (simp; omega), Later.ex (by repeat (first | exact ext_refl _ | refine ext_alloc ?_ _ | refine ext_later ?_ _ | refine ext_drew ?_ | refine ext_drewN ?_ _ | refine ext_setCell ?_ _ _ (by first | assumption | (dsimp only; omega)) | assumption))⟩)

set_option maxHeartbeats 4000000 in
set_option maxRecDepth 100000 in
theorem texts_bad2 (n1 i1 h1 n2 i2 h2 : Int) (m1 : mayB n1 i1 h1 = true) (m2 : mayB n2 i2 h2 = false) (w : World) (ht : Tab w) : Gives Tryd.prog 8 #[.agg #[.int .i64 n1, .int .i64 i1, .int .i64 h1], .agg #[.int .i64 n2, .int .i64 i2, .int .i64 h2]] w (.bool true) := by
  unfold Gives
  have HT := Lib.hid ht
  have HA : Hid (∀ w, Tab w → Gives Tryd.prog 18 #[] w (.bool true)) := Lib.hid awake_any
  have HM : Hid (∀ w, Gives Tryd.prog 12 #[.agg #[.int .i64 n1, .int .i64 i1, .int .i64 h1]] w (.bool true)) := Lib.hid (fun w => (may_any n1 i1 h1 w).cast (by rw [m1]))
  have HN : Hid (∀ w, Gives Tryd.prog 12 #[.agg #[.int .i64 n2, .int .i64 i2, .int .i64 h2]] w (.bool false)) := Lib.hid (fun w => (may_any n2 i2 h2 w).cast (by rw [m2]))
  obtain ⟨t, et⟩ : ∃ t, textS n1 i1 h1 = t := ⟨_, rfl⟩
  have HU : Hid (∀ w, Tab w → Gives Tryd.prog 16 #[.agg #[.int .i64 n1, .int .i64 i1, .int .i64 h1]] w (.string t)) := Lib.hid (fun w ht => (text_any n1 i1 h1 w ht).cast (by rw [et]))
  obtain ⟨z1, z2, z3⟩ := empty_facts (et ▸ textS_size m1)
  clear m1 m2 et ht
  go_enter Tryd.func8, Tryd.ntmps8
  go_wp2_with fail
  refine Gives.mono' (HM.out _) ?_
  intro x1
  go_wp2_with fail
  refine Gives.cutOn (fun W2 => ClaimAt W2 w.heap.size n1 i1 h1 ∧ ClaimAt W2 (w.heap.size + 1) n2 i2 h2 ∧ Below w.heap.size w W2) (HN.out _) ?hF ?_
  case hF =>
    intro x
    exact ⟨⟨by simp [go_sem], by simp [go_sem], by simp [go_sem], by simp [go_sem], by simp [go_sem], by simp [go_sem], by simp [go_sem]⟩, ⟨by simp [go_sem], by simp [go_sem], by simp [go_sem], by simp [go_sem], by simp [go_sem], by simp [go_sem], by simp [go_sem]⟩, (by repeat (first | exact ext_refl _ | refine ext_alloc ?_ _ | refine ext_later ?_ _ | refine ext_drew ?_ | refine ext_drewN ?_ _ | refine ext_setCell ?_ _ _ (by first | assumption | (dsimp only; omega)) | assumption))⟩
  rintro W2 ⟨⟨a0, a1, a2, a3, a5, a6, a7⟩, ⟨b0, b1, b2, b3, b5, b6, b7⟩, hb⟩
  go_wp2_with fail
  refine wp_region_later (by kernel_rfl) (by kernel_rfl) ?_
  repeat (go_big_quiet_step (first | (go_at_call 12; with_reducible exact later_of (HM.out _)) | (go_at_call 16; with_reducible exact later_of (HU.out _ (HT.out.later (by repeat (first | exact ext_refl _ | refine ext_alloc ?_ _ | refine ext_later ?_ _ | refine ext_drew ?_ | refine ext_drewN ?_ _ | refine ext_setCell ?_ _ _ (by first | assumption | (dsimp only; omega)) | assumption))))) | (go_at_call 18; with_reducible exact later_of (HA.out _ (HT.out.later (by repeat (first | exact ext_refl _ | refine ext_alloc ?_ _ | refine ext_later ?_ _ | refine ext_drew ?_ | refine ext_drewN ?_ _ | refine ext_setCell ?_ _ _ (by first | assumption | (dsimp only; omega)) | assumption)))))))
  refine wpQuiet_nil ?_
  rintro _ ⟨x9, rfl⟩
  go_wp2
  all_goals (go_ret; exact ⟨by first | rfl | (simp; omega), Later.ex (by repeat (first | exact ext_refl _ | refine ext_alloc ?_ _ | refine ext_later ?_ _ | refine ext_drew ?_ | refine ext_drewN ?_ _ | refine ext_setCell ?_ _ _ (by first | assumption | (dsimp only; omega)) | assumption))⟩)

set_option maxHeartbeats 4000000 in
set_option maxRecDepth 100000 in
theorem texts_l11E (n1 i1 h1 n2 i2 h2 : Int) (m1 : mayB n1 i1 h1 = true) (m2 : mayB n2 i2 h2 = true) (l1 : h1 = 4) (l2 : h2 = 4) (en : n2 = n1) (eh : h2 = h1) (w : World) (ht : Tab w) : Gives Tryd.prog 8 #[.agg #[.int .i64 n1, .int .i64 i1, .int .i64 h1], .agg #[.int .i64 n2, .int .i64 i2, .int .i64 h2]] w (.bool true) := by
  unfold Gives
  have HT := Lib.hid ht
  have HA : Hid (∀ w, Tab w → Gives Tryd.prog 18 #[] w (.bool true)) := Lib.hid awake_any
  have k1 : mayB n1 (0) h1 = true := by simp only [mayB, decide_eq_true_eq] at m1 ⊢; omega
  have k2 : mayB n2 (0) h2 = true := by simp only [mayB, decide_eq_true_eq] at m2 ⊢; omega
  obtain ⟨t1, et1⟩ : ∃ t, textS n1 (0) h1 = t := ⟨_, rfl⟩
  obtain ⟨t2, et2⟩ : ∃ t, textS n2 (0) h2 = t := ⟨_, rfl⟩
  have hz : (3 : Int) ≤ (t1.size : Int) := by have := textS_size k1; rw [et1] at this; omega
  have e12 : t2 = t1 := by rw [← et1, ← et2, en, eh]
  have q : (t1.toList == t2.toList) = true := by rw [e12]; simp
  have HM : Hid (∀ w, Gives Tryd.prog 12 #[.agg #[.int .i64 n1, .int .i64 i1, .int .i64 h1]] w (.bool true)) := Lib.hid (fun w => (may_any n1 i1 h1 w).cast (by rw [m1]))
  have HN : Hid (∀ w, Gives Tryd.prog 12 #[.agg #[.int .i64 n2, .int .i64 i2, .int .i64 h2]] w (.bool true)) := Lib.hid (fun w => (may_any n2 i2 h2 w).cast (by rw [m2]))
  have HU : Hid (∀ w, Tab w → Gives Tryd.prog 16 #[.agg #[.int .i64 n1, .int .i64 0, .int .i64 h1]] w (.string t1)) := Lib.hid (fun w ht => (text_any n1 0 h1 w ht).cast (by rw [et1]))
  have HV : Hid (∀ w, Tab w → Gives Tryd.prog 16 #[.agg #[.int .i64 n2, .int .i64 0, .int .i64 h2]] w (.string t2)) := Lib.hid (fun w ht => (text_any n2 0 h2 w ht).cast (by rw [et2]))
  try (first | (have e1 : ((h1 : Int) == 4) = true := by first | exact beq_iff_eq.2 (by omega) | (rw [bne_iff_ne]; omega)) | (have e1 : ((h1 : Int) == 4) = false := by first | exact beq_eq_false_iff_ne.2 (by omega) | exact bne_eq_false_iff_eq.2 (by omega)))
  try (first | (have e2 : ((h2 : Int) == 4) = true := by first | exact beq_iff_eq.2 (by omega) | (rw [bne_iff_ne]; omega)) | (have e2 : ((h2 : Int) == 4) = false := by first | exact beq_eq_false_iff_ne.2 (by omega) | exact bne_eq_false_iff_eq.2 (by omega)))
  try (first | (have e3 : ((n1 : Int) == n2) = true := by first | exact beq_iff_eq.2 (by omega) | (rw [bne_iff_ne]; omega)) | (have e3 : ((n1 : Int) == n2) = false := by first | exact beq_eq_false_iff_ne.2 (by omega) | exact bne_eq_false_iff_eq.2 (by omega)))
  try (first | (have e4 : ((h1 : Int) == h2) = true := by first | exact beq_iff_eq.2 (by omega) | (rw [bne_iff_ne]; omega)) | (have e4 : ((h1 : Int) == h2) = false := by first | exact beq_eq_false_iff_ne.2 (by omega) | exact bne_eq_false_iff_eq.2 (by omega)))
  clear m1 m2 l1 l2 en eh k1 k2 et1 et2 ht e12
  go_enter Tryd.func8, Tryd.ntmps8
  go_wp2_with fail
  refine Gives.mono' (HM.out _) ?_
  intro x1
  go_wp2_with fail
  refine Gives.cutOn (fun W2 => ClaimAt W2 w.heap.size n1 i1 h1 ∧ ClaimAt W2 (w.heap.size + 1) n2 i2 h2 ∧ Below w.heap.size w W2) (HN.out _) ?hF ?_
  case hF =>
    intro x
    exact ⟨⟨by simp [go_sem], by simp [go_sem], by simp [go_sem], by simp [go_sem], by simp [go_sem], by simp [go_sem], by simp [go_sem]⟩, ⟨by simp [go_sem], by simp [go_sem], by simp [go_sem], by simp [go_sem], by simp [go_sem], by simp [go_sem], by simp [go_sem]⟩, (by repeat (first | exact ext_refl _ | refine ext_alloc ?_ _ | refine ext_later ?_ _ | refine ext_drew ?_ | refine ext_drewN ?_ _ | refine ext_setCell ?_ _ _ (by first | assumption | (dsimp only; omega)) | assumption))⟩
  rintro W2 ⟨⟨a0, a1, a2, a3, a5, a6, a7⟩, ⟨b0, b1, b2, b3, b5, b6, b7⟩, hb⟩
  go_wp2_with fail
  refine wp_region_later (by kernel_rfl) (by kernel_rfl) ?_
  repeat (go_big_quiet_step (first | (go_at_call 16; with_reducible exact later_of (HU.out _ (HT.out.later (by repeat (first | exact ext_refl _ | refine ext_alloc ?_ _ | refine ext_later ?_ _ | refine ext_drew ?_ | refine ext_drewN ?_ _ | refine ext_setCell ?_ _ _ (by first | assumption | (dsimp only; omega)) | assumption))))) | (go_at_call 16; with_reducible exact later_of (HV.out _ (HT.out.later (by repeat (first | exact ext_refl _ | refine ext_alloc ?_ _ | refine ext_later ?_ _ | refine ext_drew ?_ | refine ext_drewN ?_ _ | refine ext_setCell ?_ _ _ (by first | assumption | (dsimp only; omega)) | assumption))))) | (go_at_call 18; with_reducible exact later_of (HA.out _ (HT.out.later (by repeat (first | exact ext_refl _ | refine ext_alloc ?_ _ | refine ext_later ?_ _ | refine ext_drew ?_ | refine ext_drewN ?_ _ | refine ext_setCell ?_ _ _ (by first | assumption | (dsimp only; omega)) | assumption)))))))
  refine wpQuiet_nil ?_
  rintro _ ⟨x9, rfl⟩
  go_wp2
  all_goals (go_ret; exact ⟨by first | rfl | (simp; omega), Later.ex (by repeat (first | exact ext_refl _ | refine ext_alloc ?_ _ | refine ext_later ?_ _ | refine ext_drew ?_ | refine ext_drewN ?_ _ | refine ext_setCell ?_ _ _ (by first | assumption | (dsimp only; omega)) | assumption))⟩)

set_option maxHeartbeats 4000000 in
set_option maxRecDepth 100000 in
theorem texts_l11n (n1 i1 h1 n2 i2 h2 : Int) (m1 : mayB n1 i1 h1 = true) (m2 : mayB n2 i2 h2 = true) (l1 : h1 = 4) (l2 : h2 = 4) (en : n1 ≠ n2) (w : World) (ht : Tab w) : Gives Tryd.prog 8 #[.agg #[.int .i64 n1, .int .i64 i1, .int .i64 h1], .agg #[.int .i64 n2, .int .i64 i2, .int .i64 h2]] w (.bool true) := by
  unfold Gives
  have HT := Lib.hid ht
  have HA : Hid (∀ w, Tab w → Gives Tryd.prog 18 #[] w (.bool true)) := Lib.hid awake_any
  have k1 : mayB n1 (0) h1 = true := by simp only [mayB, decide_eq_true_eq] at m1 ⊢; omega
  have k2 : mayB n2 (0) h2 = true := by simp only [mayB, decide_eq_true_eq] at m2 ⊢; omega
  obtain ⟨t1, et1⟩ : ∃ t, textS n1 (0) h1 = t := ⟨_, rfl⟩
  obtain ⟨t2, et2⟩ : ∃ t, textS n2 (0) h2 = t := ⟨_, rfl⟩
  have hz : (3 : Int) ≤ (t1.size : Int) := by have := textS_size k1; rw [et1] at this; omega
  have q : (t1.toList == t2.toList) = false := toList_ne (fun e => by
    have := textS_inj k1 k2 (fun z => by omega) (fun z => by omega) (by rw [et1, et2, e])
    omega)
  have HM : Hid (∀ w, Gives Tryd.prog 12 #[.agg #[.int .i64 n1, .int .i64 i1, .int .i64 h1]] w (.bool true)) := Lib.hid (fun w => (may_any n1 i1 h1 w).cast (by rw [m1]))
  have HN : Hid (∀ w, Gives Tryd.prog 12 #[.agg #[.int .i64 n2, .int .i64 i2, .int .i64 h2]] w (.bool true)) := Lib.hid (fun w => (may_any n2 i2 h2 w).cast (by rw [m2]))
  have HU : Hid (∀ w, Tab w → Gives Tryd.prog 16 #[.agg #[.int .i64 n1, .int .i64 0, .int .i64 h1]] w (.string t1)) := Lib.hid (fun w ht => (text_any n1 0 h1 w ht).cast (by rw [et1]))
  have HV : Hid (∀ w, Tab w → Gives Tryd.prog 16 #[.agg #[.int .i64 n2, .int .i64 0, .int .i64 h2]] w (.string t2)) := Lib.hid (fun w ht => (text_any n2 0 h2 w ht).cast (by rw [et2]))
  try (first | (have e1 : ((h1 : Int) == 4) = true := by first | exact beq_iff_eq.2 (by omega) | (rw [bne_iff_ne]; omega)) | (have e1 : ((h1 : Int) == 4) = false := by first | exact beq_eq_false_iff_ne.2 (by omega) | exact bne_eq_false_iff_eq.2 (by omega)))
  try (first | (have e2 : ((h2 : Int) == 4) = true := by first | exact beq_iff_eq.2 (by omega) | (rw [bne_iff_ne]; omega)) | (have e2 : ((h2 : Int) == 4) = false := by first | exact beq_eq_false_iff_ne.2 (by omega) | exact bne_eq_false_iff_eq.2 (by omega)))
  try (first | (have e3 : ((n1 : Int) == n2) = true := by first | exact beq_iff_eq.2 (by omega) | (rw [bne_iff_ne]; omega)) | (have e3 : ((n1 : Int) == n2) = false := by first | exact beq_eq_false_iff_ne.2 (by omega) | exact bne_eq_false_iff_eq.2 (by omega)))
  try (first | (have e4 : ((h1 : Int) == h2) = true := by first | exact beq_iff_eq.2 (by omega) | (rw [bne_iff_ne]; omega)) | (have e4 : ((h1 : Int) == h2) = false := by first | exact beq_eq_false_iff_ne.2 (by omega) | exact bne_eq_false_iff_eq.2 (by omega)))
  clear m1 m2 l1 l2 en  k1 k2 et1 et2 ht
  go_enter Tryd.func8, Tryd.ntmps8
  go_wp2_with fail
  refine Gives.mono' (HM.out _) ?_
  intro x1
  go_wp2_with fail
  refine Gives.cutOn (fun W2 => ClaimAt W2 w.heap.size n1 i1 h1 ∧ ClaimAt W2 (w.heap.size + 1) n2 i2 h2 ∧ Below w.heap.size w W2) (HN.out _) ?hF ?_
  case hF =>
    intro x
    exact ⟨⟨by simp [go_sem], by simp [go_sem], by simp [go_sem], by simp [go_sem], by simp [go_sem], by simp [go_sem], by simp [go_sem]⟩, ⟨by simp [go_sem], by simp [go_sem], by simp [go_sem], by simp [go_sem], by simp [go_sem], by simp [go_sem], by simp [go_sem]⟩, (by repeat (first | exact ext_refl _ | refine ext_alloc ?_ _ | refine ext_later ?_ _ | refine ext_drew ?_ | refine ext_drewN ?_ _ | refine ext_setCell ?_ _ _ (by first | assumption | (dsimp only; omega)) | assumption))⟩
  rintro W2 ⟨⟨a0, a1, a2, a3, a5, a6, a7⟩, ⟨b0, b1, b2, b3, b5, b6, b7⟩, hb⟩
  go_wp2_with fail
  refine wp_region_later (by kernel_rfl) (by kernel_rfl) ?_
  repeat (go_big_quiet_step (first | (go_at_call 16; with_reducible exact later_of (HU.out _ (HT.out.later (by repeat (first | exact ext_refl _ | refine ext_alloc ?_ _ | refine ext_later ?_ _ | refine ext_drew ?_ | refine ext_drewN ?_ _ | refine ext_setCell ?_ _ _ (by first | assumption | (dsimp only; omega)) | assumption))))) | (go_at_call 16; with_reducible exact later_of (HV.out _ (HT.out.later (by repeat (first | exact ext_refl _ | refine ext_alloc ?_ _ | refine ext_later ?_ _ | refine ext_drew ?_ | refine ext_drewN ?_ _ | refine ext_setCell ?_ _ _ (by first | assumption | (dsimp only; omega)) | assumption))))) | (go_at_call 18; with_reducible exact later_of (HA.out _ (HT.out.later (by repeat (first | exact ext_refl _ | refine ext_alloc ?_ _ | refine ext_later ?_ _ | refine ext_drew ?_ | refine ext_drewN ?_ _ | refine ext_setCell ?_ _ _ (by first | assumption | (dsimp only; omega)) | assumption)))))))
  refine wpQuiet_nil ?_
  rintro _ ⟨x9, rfl⟩
  go_wp2
  all_goals (go_ret; exact ⟨by first | rfl | (simp; omega), Later.ex (by repeat (first | exact ext_refl _ | refine ext_alloc ?_ _ | refine ext_later ?_ _ | refine ext_drew ?_ | refine ext_drewN ?_ _ | refine ext_setCell ?_ _ _ (by first | assumption | (dsimp only; omega)) | assumption))⟩)

set_option maxHeartbeats 4000000 in
set_option maxRecDepth 100000 in
theorem texts_l10n (n1 i1 h1 n2 i2 h2 : Int) (m1 : mayB n1 i1 h1 = true) (m2 : mayB n2 i2 h2 = true) (l1 : h1 = 4) (l2 : h2 ≠ 4) (en : n1 ≠ n2) (w : World) (ht : Tab w) : Gives Tryd.prog 8 #[.agg #[.int .i64 n1, .int .i64 i1, .int .i64 h1], .agg #[.int .i64 n2, .int .i64 i2, .int .i64 h2]] w (.bool true) := by
  unfold Gives
  have HT := Lib.hid ht
  have HA : Hid (∀ w, Tab w → Gives Tryd.prog 18 #[] w (.bool true)) := Lib.hid awake_any
  have k1 : mayB n1 (0) h1 = true := by simp only [mayB, decide_eq_true_eq] at m1 ⊢; omega
  have k2 : mayB n2 (i2) h2 = true := by simp only [mayB, decide_eq_true_eq] at m2 ⊢; omega
  obtain ⟨t1, et1⟩ : ∃ t, textS n1 (0) h1 = t := ⟨_, rfl⟩
  obtain ⟨t2, et2⟩ : ∃ t, textS n2 (i2) h2 = t := ⟨_, rfl⟩
  have hz : (3 : Int) ≤ (t1.size : Int) := by have := textS_size k1; rw [et1] at this; omega
  have q : (t1.toList == t2.toList) = false := toList_ne (fun e => by
    have := textS_inj k1 k2 (fun z => by omega) (fun z => by omega) (by rw [et1, et2, e])
    omega)
  have HM : Hid (∀ w, Gives Tryd.prog 12 #[.agg #[.int .i64 n1, .int .i64 i1, .int .i64 h1]] w (.bool true)) := Lib.hid (fun w => (may_any n1 i1 h1 w).cast (by rw [m1]))
  have HN : Hid (∀ w, Gives Tryd.prog 12 #[.agg #[.int .i64 n2, .int .i64 i2, .int .i64 h2]] w (.bool true)) := Lib.hid (fun w => (may_any n2 i2 h2 w).cast (by rw [m2]))
  have HU : Hid (∀ w, Tab w → Gives Tryd.prog 16 #[.agg #[.int .i64 n1, .int .i64 0, .int .i64 h1]] w (.string t1)) := Lib.hid (fun w ht => (text_any n1 0 h1 w ht).cast (by rw [et1]))
  have HV : Hid (∀ w, Tab w → Gives Tryd.prog 16 #[.agg #[.int .i64 n2, .int .i64 i2, .int .i64 h2]] w (.string t2)) := Lib.hid (fun w ht => (text_any n2 i2 h2 w ht).cast (by rw [et2]))
  try (first | (have e1 : ((h1 : Int) == 4) = true := by first | exact beq_iff_eq.2 (by omega) | (rw [bne_iff_ne]; omega)) | (have e1 : ((h1 : Int) == 4) = false := by first | exact beq_eq_false_iff_ne.2 (by omega) | exact bne_eq_false_iff_eq.2 (by omega)))
  try (first | (have e2 : ((h2 : Int) == 4) = true := by first | exact beq_iff_eq.2 (by omega) | (rw [bne_iff_ne]; omega)) | (have e2 : ((h2 : Int) == 4) = false := by first | exact beq_eq_false_iff_ne.2 (by omega) | exact bne_eq_false_iff_eq.2 (by omega)))
  try (first | (have e3 : ((n1 : Int) == n2) = true := by first | exact beq_iff_eq.2 (by omega) | (rw [bne_iff_ne]; omega)) | (have e3 : ((n1 : Int) == n2) = false := by first | exact beq_eq_false_iff_ne.2 (by omega) | exact bne_eq_false_iff_eq.2 (by omega)))
  try (first | (have e4 : ((h1 : Int) == h2) = true := by first | exact beq_iff_eq.2 (by omega) | (rw [bne_iff_ne]; omega)) | (have e4 : ((h1 : Int) == h2) = false := by first | exact beq_eq_false_iff_ne.2 (by omega) | exact bne_eq_false_iff_eq.2 (by omega)))
  clear m1 m2 l1 l2 en  k1 k2 et1 et2 ht
  go_enter Tryd.func8, Tryd.ntmps8
  go_wp2_with fail
  refine Gives.mono' (HM.out _) ?_
  intro x1
  go_wp2_with fail
  refine Gives.cutOn (fun W2 => ClaimAt W2 w.heap.size n1 i1 h1 ∧ ClaimAt W2 (w.heap.size + 1) n2 i2 h2 ∧ Below w.heap.size w W2) (HN.out _) ?hF ?_
  case hF =>
    intro x
    exact ⟨⟨by simp [go_sem], by simp [go_sem], by simp [go_sem], by simp [go_sem], by simp [go_sem], by simp [go_sem], by simp [go_sem]⟩, ⟨by simp [go_sem], by simp [go_sem], by simp [go_sem], by simp [go_sem], by simp [go_sem], by simp [go_sem], by simp [go_sem]⟩, (by repeat (first | exact ext_refl _ | refine ext_alloc ?_ _ | refine ext_later ?_ _ | refine ext_drew ?_ | refine ext_drewN ?_ _ | refine ext_setCell ?_ _ _ (by first | assumption | (dsimp only; omega)) | assumption))⟩
  rintro W2 ⟨⟨a0, a1, a2, a3, a5, a6, a7⟩, ⟨b0, b1, b2, b3, b5, b6, b7⟩, hb⟩
  go_wp2_with fail
  refine wp_region_later (by kernel_rfl) (by kernel_rfl) ?_
  repeat (go_big_quiet_step (first | (go_at_call 16; with_reducible exact later_of (HU.out _ (HT.out.later (by repeat (first | exact ext_refl _ | refine ext_alloc ?_ _ | refine ext_later ?_ _ | refine ext_drew ?_ | refine ext_drewN ?_ _ | refine ext_setCell ?_ _ _ (by first | assumption | (dsimp only; omega)) | assumption))))) | (go_at_call 16; with_reducible exact later_of (HV.out _ (HT.out.later (by repeat (first | exact ext_refl _ | refine ext_alloc ?_ _ | refine ext_later ?_ _ | refine ext_drew ?_ | refine ext_drewN ?_ _ | refine ext_setCell ?_ _ _ (by first | assumption | (dsimp only; omega)) | assumption))))) | (go_at_call 18; with_reducible exact later_of (HA.out _ (HT.out.later (by repeat (first | exact ext_refl _ | refine ext_alloc ?_ _ | refine ext_later ?_ _ | refine ext_drew ?_ | refine ext_drewN ?_ _ | refine ext_setCell ?_ _ _ (by first | assumption | (dsimp only; omega)) | assumption)))))))
  refine wpQuiet_nil ?_
  rintro _ ⟨x9, rfl⟩
  go_wp2
  all_goals (go_ret; exact ⟨by first | rfl | (simp; omega), Later.ex (by repeat (first | exact ext_refl _ | refine ext_alloc ?_ _ | refine ext_later ?_ _ | refine ext_drew ?_ | refine ext_drewN ?_ _ | refine ext_setCell ?_ _ _ (by first | assumption | (dsimp only; omega)) | assumption))⟩)

set_option maxHeartbeats 4000000 in
set_option maxRecDepth 100000 in
theorem texts_l10h (n1 i1 h1 n2 i2 h2 : Int) (m1 : mayB n1 i1 h1 = true) (m2 : mayB n2 i2 h2 = true) (l1 : h1 = 4) (l2 : h2 ≠ 4) (en : n1 = n2) (eh : h1 ≠ h2) (w : World) (ht : Tab w) : Gives Tryd.prog 8 #[.agg #[.int .i64 n1, .int .i64 i1, .int .i64 h1], .agg #[.int .i64 n2, .int .i64 i2, .int .i64 h2]] w (.bool true) := by
  unfold Gives
  have HT := Lib.hid ht
  have HA : Hid (∀ w, Tab w → Gives Tryd.prog 18 #[] w (.bool true)) := Lib.hid awake_any
  have k1 : mayB n1 (0) h1 = true := by simp only [mayB, decide_eq_true_eq] at m1 ⊢; omega
  have k2 : mayB n2 (i2) h2 = true := by simp only [mayB, decide_eq_true_eq] at m2 ⊢; omega
  obtain ⟨t1, et1⟩ : ∃ t, textS n1 (0) h1 = t := ⟨_, rfl⟩
  obtain ⟨t2, et2⟩ : ∃ t, textS n2 (i2) h2 = t := ⟨_, rfl⟩
  have hz : (3 : Int) ≤ (t1.size : Int) := by have := textS_size k1; rw [et1] at this; omega
  have q : (t1.toList == t2.toList) = false := toList_ne (fun e => by
    have := textS_inj k1 k2 (fun z => by omega) (fun z => by omega) (by rw [et1, et2, e])
    omega)
  have HM : Hid (∀ w, Gives Tryd.prog 12 #[.agg #[.int .i64 n1, .int .i64 i1, .int .i64 h1]] w (.bool true)) := Lib.hid (fun w => (may_any n1 i1 h1 w).cast (by rw [m1]))
  have HN : Hid (∀ w, Gives Tryd.prog 12 #[.agg #[.int .i64 n2, .int .i64 i2, .int .i64 h2]] w (.bool true)) := Lib.hid (fun w => (may_any n2 i2 h2 w).cast (by rw [m2]))
  have HU : Hid (∀ w, Tab w → Gives Tryd.prog 16 #[.agg #[.int .i64 n1, .int .i64 0, .int .i64 h1]] w (.string t1)) := Lib.hid (fun w ht => (text_any n1 0 h1 w ht).cast (by rw [et1]))
  have HV : Hid (∀ w, Tab w → Gives Tryd.prog 16 #[.agg #[.int .i64 n2, .int .i64 i2, .int .i64 h2]] w (.string t2)) := Lib.hid (fun w ht => (text_any n2 i2 h2 w ht).cast (by rw [et2]))
  try (first | (have e1 : ((h1 : Int) == 4) = true := by first | exact beq_iff_eq.2 (by omega) | (rw [bne_iff_ne]; omega)) | (have e1 : ((h1 : Int) == 4) = false := by first | exact beq_eq_false_iff_ne.2 (by omega) | exact bne_eq_false_iff_eq.2 (by omega)))
  try (first | (have e2 : ((h2 : Int) == 4) = true := by first | exact beq_iff_eq.2 (by omega) | (rw [bne_iff_ne]; omega)) | (have e2 : ((h2 : Int) == 4) = false := by first | exact beq_eq_false_iff_ne.2 (by omega) | exact bne_eq_false_iff_eq.2 (by omega)))
  try (first | (have e3 : ((n1 : Int) == n2) = true := by first | exact beq_iff_eq.2 (by omega) | (rw [bne_iff_ne]; omega)) | (have e3 : ((n1 : Int) == n2) = false := by first | exact beq_eq_false_iff_ne.2 (by omega) | exact bne_eq_false_iff_eq.2 (by omega)))
  try (first | (have e4 : ((h1 : Int) == h2) = true := by first | exact beq_iff_eq.2 (by omega) | (rw [bne_iff_ne]; omega)) | (have e4 : ((h1 : Int) == h2) = false := by first | exact beq_eq_false_iff_ne.2 (by omega) | exact bne_eq_false_iff_eq.2 (by omega)))
  clear m1 m2 l1 l2 en eh k1 k2 et1 et2 ht
  go_enter Tryd.func8, Tryd.ntmps8
  go_wp2_with fail
  refine Gives.mono' (HM.out _) ?_
  intro x1
  go_wp2_with fail
  refine Gives.cutOn (fun W2 => ClaimAt W2 w.heap.size n1 i1 h1 ∧ ClaimAt W2 (w.heap.size + 1) n2 i2 h2 ∧ Below w.heap.size w W2) (HN.out _) ?hF ?_
  case hF =>
    intro x
    exact ⟨⟨by simp [go_sem], by simp [go_sem], by simp [go_sem], by simp [go_sem], by simp [go_sem], by simp [go_sem], by simp [go_sem]⟩, ⟨by simp [go_sem], by simp [go_sem], by simp [go_sem], by simp [go_sem], by simp [go_sem], by simp [go_sem], by simp [go_sem]⟩, (by repeat (first | exact ext_refl _ | refine ext_alloc ?_ _ | refine ext_later ?_ _ | refine ext_drew ?_ | refine ext_drewN ?_ _ | refine ext_setCell ?_ _ _ (by first | assumption | (dsimp only; omega)) | assumption))⟩
  rintro W2 ⟨⟨a0, a1, a2, a3, a5, a6, a7⟩, ⟨b0, b1, b2, b3, b5, b6, b7⟩, hb⟩
  go_wp2_with fail
  refine wp_region_later (by kernel_rfl) (by kernel_rfl) ?_
  repeat (go_big_quiet_step (first | (go_at_call 16; with_reducible exact later_of (HU.out _ (HT.out.later (by repeat (first | exact ext_refl _ | refine ext_alloc ?_ _ | refine ext_later ?_ _ | refine ext_drew ?_ | refine ext_drewN ?_ _ | refine ext_setCell ?_ _ _ (by first | assumption | (dsimp only; omega)) | assumption))))) | (go_at_call 16; with_reducible exact later_of (HV.out _ (HT.out.later (by repeat (first | exact ext_refl _ | refine ext_alloc ?_ _ | refine ext_later ?_ _ | refine ext_drew ?_ | refine ext_drewN ?_ _ | refine ext_setCell ?_ _ _ (by first | assumption | (dsimp only; omega)) | assumption))))) | (go_at_call 18; with_reducible exact later_of (HA.out _ (HT.out.later (by repeat (first | exact ext_refl _ | refine ext_alloc ?_ _ | refine ext_later ?_ _ | refine ext_drew ?_ | refine ext_drewN ?_ _ | refine ext_setCell ?_ _ _ (by first | assumption | (dsimp only; omega)) | assumption)))))))
  refine wpQuiet_nil ?_
  rintro _ ⟨x9, rfl⟩
  go_wp2
  all_goals (go_ret; exact ⟨by first | rfl | (simp; omega), Later.ex (by repeat (first | exact ext_refl _ | refine ext_alloc ?_ _ | refine ext_later ?_ _ | refine ext_drew ?_ | refine ext_drewN ?_ _ | refine ext_setCell ?_ _ _ (by first | assumption | (dsimp only; omega)) | assumption))⟩)

set_option maxHeartbeats 4000000 in
set_option maxRecDepth 100000 in
theorem texts_l01n (n1 i1 h1 n2 i2 h2 : Int) (m1 : mayB n1 i1 h1 = true) (m2 : mayB n2 i2 h2 = true) (l1 : h1 ≠ 4) (l2 : h2 = 4) (en : n1 ≠ n2) (w : World) (ht : Tab w) : Gives Tryd.prog 8 #[.agg #[.int .i64 n1, .int .i64 i1, .int .i64 h1], .agg #[.int .i64 n2, .int .i64 i2, .int .i64 h2]] w (.bool true) := by
  unfold Gives
  have HT := Lib.hid ht
  have HA : Hid (∀ w, Tab w → Gives Tryd.prog 18 #[] w (.bool true)) := Lib.hid awake_any
  have k1 : mayB n1 (i1) h1 = true := by simp only [mayB, decide_eq_true_eq] at m1 ⊢; omega
  have k2 : mayB n2 (0) h2 = true := by simp only [mayB, decide_eq_true_eq] at m2 ⊢; omega
  obtain ⟨t1, et1⟩ : ∃ t, textS n1 (i1) h1 = t := ⟨_, rfl⟩
  obtain ⟨t2, et2⟩ : ∃ t, textS n2 (0) h2 = t := ⟨_, rfl⟩
  have hz : (3 : Int) ≤ (t1.size : Int) := by have := textS_size k1; rw [et1] at this; omega
  have q : (t1.toList == t2.toList) = false := toList_ne (fun e => by
    have := textS_inj k1 k2 (fun z => by omega) (fun z => by omega) (by rw [et1, et2, e])
    omega)
  have HM : Hid (∀ w, Gives Tryd.prog 12 #[.agg #[.int .i64 n1, .int .i64 i1, .int .i64 h1]] w (.bool true)) := Lib.hid (fun w => (may_any n1 i1 h1 w).cast (by rw [m1]))
  have HN : Hid (∀ w, Gives Tryd.prog 12 #[.agg #[.int .i64 n2, .int .i64 i2, .int .i64 h2]] w (.bool true)) := Lib.hid (fun w => (may_any n2 i2 h2 w).cast (by rw [m2]))
  have HU : Hid (∀ w, Tab w → Gives Tryd.prog 16 #[.agg #[.int .i64 n1, .int .i64 i1, .int .i64 h1]] w (.string t1)) := Lib.hid (fun w ht => (text_any n1 i1 h1 w ht).cast (by rw [et1]))
  have HV : Hid (∀ w, Tab w → Gives Tryd.prog 16 #[.agg #[.int .i64 n2, .int .i64 0, .int .i64 h2]] w (.string t2)) := Lib.hid (fun w ht => (text_any n2 0 h2 w ht).cast (by rw [et2]))
  try (first | (have e1 : ((h1 : Int) == 4) = true := by first | exact beq_iff_eq.2 (by omega) | (rw [bne_iff_ne]; omega)) | (have e1 : ((h1 : Int) == 4) = false := by first | exact beq_eq_false_iff_ne.2 (by omega) | exact bne_eq_false_iff_eq.2 (by omega)))
  try (first | (have e2 : ((h2 : Int) == 4) = true := by first | exact beq_iff_eq.2 (by omega) | (rw [bne_iff_ne]; omega)) | (have e2 : ((h2 : Int) == 4) = false := by first | exact beq_eq_false_iff_ne.2 (by omega) | exact bne_eq_false_iff_eq.2 (by omega)))
  try (first | (have e3 : ((n1 : Int) == n2) = true := by first | exact beq_iff_eq.2 (by omega) | (rw [bne_iff_ne]; omega)) | (have e3 : ((n1 : Int) == n2) = false := by first | exact beq_eq_false_iff_ne.2 (by omega) | exact bne_eq_false_iff_eq.2 (by omega)))
  try (first | (have e4 : ((h1 : Int) == h2) = true := by first | exact beq_iff_eq.2 (by omega) | (rw [bne_iff_ne]; omega)) | (have e4 : ((h1 : Int) == h2) = false := by first | exact beq_eq_false_iff_ne.2 (by omega) | exact bne_eq_false_iff_eq.2 (by omega)))
  clear m1 m2 l1 l2 en  k1 k2 et1 et2 ht
  go_enter Tryd.func8, Tryd.ntmps8
  go_wp2_with fail
  refine Gives.mono' (HM.out _) ?_
  intro x1
  go_wp2_with fail
  refine Gives.cutOn (fun W2 => ClaimAt W2 w.heap.size n1 i1 h1 ∧ ClaimAt W2 (w.heap.size + 1) n2 i2 h2 ∧ Below w.heap.size w W2) (HN.out _) ?hF ?_
  case hF =>
    intro x
    exact ⟨⟨by simp [go_sem], by simp [go_sem], by simp [go_sem], by simp [go_sem], by simp [go_sem], by simp [go_sem], by simp [go_sem]⟩, ⟨by simp [go_sem], by simp [go_sem], by simp [go_sem], by simp [go_sem], by simp [go_sem], by simp [go_sem], by simp [go_sem]⟩, (by repeat (first | exact ext_refl _ | refine ext_alloc ?_ _ | refine ext_later ?_ _ | refine ext_drew ?_ | refine ext_drewN ?_ _ | refine ext_setCell ?_ _ _ (by first | assumption | (dsimp only; omega)) | assumption))⟩
  rintro W2 ⟨⟨a0, a1, a2, a3, a5, a6, a7⟩, ⟨b0, b1, b2, b3, b5, b6, b7⟩, hb⟩
  go_wp2_with fail
  refine wp_region_later (by kernel_rfl) (by kernel_rfl) ?_
  repeat (go_big_quiet_step (first | (go_at_call 16; with_reducible exact later_of (HU.out _ (HT.out.later (by repeat (first | exact ext_refl _ | refine ext_alloc ?_ _ | refine ext_later ?_ _ | refine ext_drew ?_ | refine ext_drewN ?_ _ | refine ext_setCell ?_ _ _ (by first | assumption | (dsimp only; omega)) | assumption))))) | (go_at_call 16; with_reducible exact later_of (HV.out _ (HT.out.later (by repeat (first | exact ext_refl _ | refine ext_alloc ?_ _ | refine ext_later ?_ _ | refine ext_drew ?_ | refine ext_drewN ?_ _ | refine ext_setCell ?_ _ _ (by first | assumption | (dsimp only; omega)) | assumption))))) | (go_at_call 18; with_reducible exact later_of (HA.out _ (HT.out.later (by repeat (first | exact ext_refl _ | refine ext_alloc ?_ _ | refine ext_later ?_ _ | refine ext_drew ?_ | refine ext_drewN ?_ _ | refine ext_setCell ?_ _ _ (by first | assumption | (dsimp only; omega)) | assumption)))))))
  refine wpQuiet_nil ?_
  rintro _ ⟨x9, rfl⟩
  go_wp2
  all_goals (go_ret; exact ⟨by first | rfl | (simp; omega), Later.ex (by repeat (first | exact ext_refl _ | refine ext_alloc ?_ _ | refine ext_later ?_ _ | refine ext_drew ?_ | refine ext_drewN ?_ _ | refine ext_setCell ?_ _ _ (by first | assumption | (dsimp only; omega)) | assumption))⟩)

set_option maxHeartbeats 4000000 in
set_option maxRecDepth 100000 in
theorem texts_l01h (n1 i1 h1 n2 i2 h2 : Int) (m1 : mayB n1 i1 h1 = true) (m2 : mayB n2 i2 h2 = true) (l1 : h1 ≠ 4) (l2 : h2 = 4) (en : n1 = n2) (eh : h1 ≠ h2) (w : World) (ht : Tab w) : Gives Tryd.prog 8 #[.agg #[.int .i64 n1, .int .i64 i1, .int .i64 h1], .agg #[.int .i64 n2, .int .i64 i2, .int .i64 h2]] w (.bool true) := by
  unfold Gives
  have HT := Lib.hid ht
  have HA : Hid (∀ w, Tab w → Gives Tryd.prog 18 #[] w (.bool true)) := Lib.hid awake_any
  have k1 : mayB n1 (i1) h1 = true := by simp only [mayB, decide_eq_true_eq] at m1 ⊢; omega
  have k2 : mayB n2 (0) h2 = true := by simp only [mayB, decide_eq_true_eq] at m2 ⊢; omega
  obtain ⟨t1, et1⟩ : ∃ t, textS n1 (i1) h1 = t := ⟨_, rfl⟩
  obtain ⟨t2, et2⟩ : ∃ t, textS n2 (0) h2 = t := ⟨_, rfl⟩
  have hz : (3 : Int) ≤ (t1.size : Int) := by have := textS_size k1; rw [et1] at this; omega
  have q : (t1.toList == t2.toList) = false := toList_ne (fun e => by
    have := textS_inj k1 k2 (fun z => by omega) (fun z => by omega) (by rw [et1, et2, e])
    omega)
  have HM : Hid (∀ w, Gives Tryd.prog 12 #[.agg #[.int .i64 n1, .int .i64 i1, .int .i64 h1]] w (.bool true)) := Lib.hid (fun w => (may_any n1 i1 h1 w).cast (by rw [m1]))
  have HN : Hid (∀ w, Gives Tryd.prog 12 #[.agg #[.int .i64 n2, .int .i64 i2, .int .i64 h2]] w (.bool true)) := Lib.hid (fun w => (may_any n2 i2 h2 w).cast (by rw [m2]))
  have HU : Hid (∀ w, Tab w → Gives Tryd.prog 16 #[.agg #[.int .i64 n1, .int .i64 i1, .int .i64 h1]] w (.string t1)) := Lib.hid (fun w ht => (text_any n1 i1 h1 w ht).cast (by rw [et1]))
  have HV : Hid (∀ w, Tab w → Gives Tryd.prog 16 #[.agg #[.int .i64 n2, .int .i64 0, .int .i64 h2]] w (.string t2)) := Lib.hid (fun w ht => (text_any n2 0 h2 w ht).cast (by rw [et2]))
  try (first | (have e1 : ((h1 : Int) == 4) = true := by first | exact beq_iff_eq.2 (by omega) | (rw [bne_iff_ne]; omega)) | (have e1 : ((h1 : Int) == 4) = false := by first | exact beq_eq_false_iff_ne.2 (by omega) | exact bne_eq_false_iff_eq.2 (by omega)))
  try (first | (have e2 : ((h2 : Int) == 4) = true := by first | exact beq_iff_eq.2 (by omega) | (rw [bne_iff_ne]; omega)) | (have e2 : ((h2 : Int) == 4) = false := by first | exact beq_eq_false_iff_ne.2 (by omega) | exact bne_eq_false_iff_eq.2 (by omega)))
  try (first | (have e3 : ((n1 : Int) == n2) = true := by first | exact beq_iff_eq.2 (by omega) | (rw [bne_iff_ne]; omega)) | (have e3 : ((n1 : Int) == n2) = false := by first | exact beq_eq_false_iff_ne.2 (by omega) | exact bne_eq_false_iff_eq.2 (by omega)))
  try (first | (have e4 : ((h1 : Int) == h2) = true := by first | exact beq_iff_eq.2 (by omega) | (rw [bne_iff_ne]; omega)) | (have e4 : ((h1 : Int) == h2) = false := by first | exact beq_eq_false_iff_ne.2 (by omega) | exact bne_eq_false_iff_eq.2 (by omega)))
  clear m1 m2 l1 l2 en eh k1 k2 et1 et2 ht
  go_enter Tryd.func8, Tryd.ntmps8
  go_wp2_with fail
  refine Gives.mono' (HM.out _) ?_
  intro x1
  go_wp2_with fail
  refine Gives.cutOn (fun W2 => ClaimAt W2 w.heap.size n1 i1 h1 ∧ ClaimAt W2 (w.heap.size + 1) n2 i2 h2 ∧ Below w.heap.size w W2) (HN.out _) ?hF ?_
  case hF =>
    intro x
    exact ⟨⟨by simp [go_sem], by simp [go_sem], by simp [go_sem], by simp [go_sem], by simp [go_sem], by simp [go_sem], by simp [go_sem]⟩, ⟨by simp [go_sem], by simp [go_sem], by simp [go_sem], by simp [go_sem], by simp [go_sem], by simp [go_sem], by simp [go_sem]⟩, (by repeat (first | exact ext_refl _ | refine ext_alloc ?_ _ | refine ext_later ?_ _ | refine ext_drew ?_ | refine ext_drewN ?_ _ | refine ext_setCell ?_ _ _ (by first | assumption | (dsimp only; omega)) | assumption))⟩
  rintro W2 ⟨⟨a0, a1, a2, a3, a5, a6, a7⟩, ⟨b0, b1, b2, b3, b5, b6, b7⟩, hb⟩
  go_wp2_with fail
  refine wp_region_later (by kernel_rfl) (by kernel_rfl) ?_
  repeat (go_big_quiet_step (first | (go_at_call 16; with_reducible exact later_of (HU.out _ (HT.out.later (by repeat (first | exact ext_refl _ | refine ext_alloc ?_ _ | refine ext_later ?_ _ | refine ext_drew ?_ | refine ext_drewN ?_ _ | refine ext_setCell ?_ _ _ (by first | assumption | (dsimp only; omega)) | assumption))))) | (go_at_call 16; with_reducible exact later_of (HV.out _ (HT.out.later (by repeat (first | exact ext_refl _ | refine ext_alloc ?_ _ | refine ext_later ?_ _ | refine ext_drew ?_ | refine ext_drewN ?_ _ | refine ext_setCell ?_ _ _ (by first | assumption | (dsimp only; omega)) | assumption))))) | (go_at_call 18; with_reducible exact later_of (HA.out _ (HT.out.later (by repeat (first | exact ext_refl _ | refine ext_alloc ?_ _ | refine ext_later ?_ _ | refine ext_drew ?_ | refine ext_drewN ?_ _ | refine ext_setCell ?_ _ _ (by first | assumption | (dsimp only; omega)) | assumption)))))))
  refine wpQuiet_nil ?_
  rintro _ ⟨x9, rfl⟩
  go_wp2
  all_goals (go_ret; exact ⟨by first | rfl | (simp; omega), Later.ex (by repeat (first | exact ext_refl _ | refine ext_alloc ?_ _ | refine ext_later ?_ _ | refine ext_drew ?_ | refine ext_drewN ?_ _ | refine ext_setCell ?_ _ _ (by first | assumption | (dsimp only; omega)) | assumption))⟩)

set_option maxHeartbeats 4000000 in
set_option maxRecDepth 100000 in
theorem texts_l00E (n1 i1 h1 n2 i2 h2 : Int) (m1 : mayB n1 i1 h1 = true) (m2 : mayB n2 i2 h2 = true) (l1 : h1 ≠ 4) (l2 : h2 ≠ 4) (en : n2 = n1) (eh : h2 = h1) (ei : i2 = i1) (w : World) (ht : Tab w) : Gives Tryd.prog 8 #[.agg #[.int .i64 n1, .int .i64 i1, .int .i64 h1], .agg #[.int .i64 n2, .int .i64 i2, .int .i64 h2]] w (.bool true) := by
  unfold Gives
  have HT := Lib.hid ht
  have HA : Hid (∀ w, Tab w → Gives Tryd.prog 18 #[] w (.bool true)) := Lib.hid awake_any
  have k1 : mayB n1 (i1) h1 = true := by simp only [mayB, decide_eq_true_eq] at m1 ⊢; omega
  have k2 : mayB n2 (i2) h2 = true := by simp only [mayB, decide_eq_true_eq] at m2 ⊢; omega
  obtain ⟨t1, et1⟩ : ∃ t, textS n1 (i1) h1 = t := ⟨_, rfl⟩
  obtain ⟨t2, et2⟩ : ∃ t, textS n2 (i2) h2 = t := ⟨_, rfl⟩
  have hz : (3 : Int) ≤ (t1.size : Int) := by have := textS_size k1; rw [et1] at this; omega
  have e12 : t2 = t1 := by rw [← et1, ← et2, en, eh, ei]
  have q : (t1.toList == t2.toList) = true := by rw [e12]; simp
  have HM : Hid (∀ w, Gives Tryd.prog 12 #[.agg #[.int .i64 n1, .int .i64 i1, .int .i64 h1]] w (.bool true)) := Lib.hid (fun w => (may_any n1 i1 h1 w).cast (by rw [m1]))
  have HN : Hid (∀ w, Gives Tryd.prog 12 #[.agg #[.int .i64 n2, .int .i64 i2, .int .i64 h2]] w (.bool true)) := Lib.hid (fun w => (may_any n2 i2 h2 w).cast (by rw [m2]))
  have HU : Hid (∀ w, Tab w → Gives Tryd.prog 16 #[.agg #[.int .i64 n1, .int .i64 i1, .int .i64 h1]] w (.string t1)) := Lib.hid (fun w ht => (text_any n1 i1 h1 w ht).cast (by rw [et1]))
  have HV : Hid (∀ w, Tab w → Gives Tryd.prog 16 #[.agg #[.int .i64 n2, .int .i64 i2, .int .i64 h2]] w (.string t2)) := Lib.hid (fun w ht => (text_any n2 i2 h2 w ht).cast (by rw [et2]))
  try (first | (have e1 : ((h1 : Int) == 4) = true := by first | exact beq_iff_eq.2 (by omega) | (rw [bne_iff_ne]; omega)) | (have e1 : ((h1 : Int) == 4) = false := by first | exact beq_eq_false_iff_ne.2 (by omega) | exact bne_eq_false_iff_eq.2 (by omega)))
  try (first | (have e2 : ((h2 : Int) == 4) = true := by first | exact beq_iff_eq.2 (by omega) | (rw [bne_iff_ne]; omega)) | (have e2 : ((h2 : Int) == 4) = false := by first | exact beq_eq_false_iff_ne.2 (by omega) | exact bne_eq_false_iff_eq.2 (by omega)))
  try (first | (have e3 : ((n1 : Int) == n2) = true := by first | exact beq_iff_eq.2 (by omega) | (rw [bne_iff_ne]; omega)) | (have e3 : ((n1 : Int) == n2) = false := by first | exact beq_eq_false_iff_ne.2 (by omega) | exact bne_eq_false_iff_eq.2 (by omega)))
  try (first | (have e4 : ((h1 : Int) == h2) = true := by first | exact beq_iff_eq.2 (by omega) | (rw [bne_iff_ne]; omega)) | (have e4 : ((h1 : Int) == h2) = false := by first | exact beq_eq_false_iff_ne.2 (by omega) | exact bne_eq_false_iff_eq.2 (by omega)))
  try (first | (have e5 : ((i1 : Int) == i2) = true := by first | exact beq_iff_eq.2 (by omega) | (rw [bne_iff_ne]; omega)) | (have e5 : ((i1 : Int) == i2) = false := by first | exact beq_eq_false_iff_ne.2 (by omega) | exact bne_eq_false_iff_eq.2 (by omega)))
  clear m1 m2 l1 l2 en eh ei k1 k2 et1 et2 ht e12
  go_enter Tryd.func8, Tryd.ntmps8
  go_wp2_with fail
  refine Gives.mono' (HM.out _) ?_
  intro x1
  go_wp2_with fail
  refine Gives.cutOn (fun W2 => ClaimAt W2 w.heap.size n1 i1 h1 ∧ ClaimAt W2 (w.heap.size + 1) n2 i2 h2 ∧ Below w.heap.size w W2) (HN.out _) ?hF ?_
  case hF =>
    intro x
    exact ⟨⟨by simp [go_sem], by simp [go_sem], by simp [go_sem], by simp [go_sem], by simp [go_sem], by simp [go_sem], by simp [go_sem]⟩, ⟨by simp [go_sem], by simp [go_sem], by simp [go_sem], by simp [go_sem], by simp [go_sem], by simp [go_sem], by simp [go_sem]⟩, (by repeat (first | exact ext_refl _ | refine ext_alloc ?_ _ | refine ext_later ?_ _ | refine ext_drew ?_ | refine ext_drewN ?_ _ | refine ext_setCell ?_ _ _ (by first | assumption | (dsimp only; omega)) | assumption))⟩
  rintro W2 ⟨⟨a0, a1, a2, a3, a5, a6, a7⟩, ⟨b0, b1, b2, b3, b5, b6, b7⟩, hb⟩
  go_wp2_with fail
  refine wp_region_later (by kernel_rfl) (by kernel_rfl) ?_
  repeat (go_big_quiet_step (first | (go_at_call 16; with_reducible exact later_of (HU.out _ (HT.out.later (by repeat (first | exact ext_refl _ | refine ext_alloc ?_ _ | refine ext_later ?_ _ | refine ext_drew ?_ | refine ext_drewN ?_ _ | refine ext_setCell ?_ _ _ (by first | assumption | (dsimp only; omega)) | assumption))))) | (go_at_call 16; with_reducible exact later_of (HV.out _ (HT.out.later (by repeat (first | exact ext_refl _ | refine ext_alloc ?_ _ | refine ext_later ?_ _ | refine ext_drew ?_ | refine ext_drewN ?_ _ | refine ext_setCell ?_ _ _ (by first | assumption | (dsimp only; omega)) | assumption))))) | (go_at_call 18; with_reducible exact later_of (HA.out _ (HT.out.later (by repeat (first | exact ext_refl _ | refine ext_alloc ?_ _ | refine ext_later ?_ _ | refine ext_drew ?_ | refine ext_drewN ?_ _ | refine ext_setCell ?_ _ _ (by first | assumption | (dsimp only; omega)) | assumption)))))))
  refine wpQuiet_nil ?_
  rintro _ ⟨x9, rfl⟩
  go_wp2
  all_goals (go_ret; exact ⟨by first | rfl | (simp; omega), Later.ex (by repeat (first | exact ext_refl _ | refine ext_alloc ?_ _ | refine ext_later ?_ _ | refine ext_drew ?_ | refine ext_drewN ?_ _ | refine ext_setCell ?_ _ _ (by first | assumption | (dsimp only; omega)) | assumption))⟩)

set_option maxHeartbeats 4000000 in
set_option maxRecDepth 100000 in
theorem texts_l00n (n1 i1 h1 n2 i2 h2 : Int) (m1 : mayB n1 i1 h1 = true) (m2 : mayB n2 i2 h2 = true) (l1 : h1 ≠ 4) (l2 : h2 ≠ 4) (en : n1 ≠ n2) (w : World) (ht : Tab w) : Gives Tryd.prog 8 #[.agg #[.int .i64 n1, .int .i64 i1, .int .i64 h1], .agg #[.int .i64 n2, .int .i64 i2, .int .i64 h2]] w (.bool true) := by
  unfold Gives
  have HT := Lib.hid ht
  have HA : Hid (∀ w, Tab w → Gives Tryd.prog 18 #[] w (.bool true)) := Lib.hid awake_any
  have k1 : mayB n1 (i1) h1 = true := by simp only [mayB, decide_eq_true_eq] at m1 ⊢; omega
  have k2 : mayB n2 (i2) h2 = true := by simp only [mayB, decide_eq_true_eq] at m2 ⊢; omega
  obtain ⟨t1, et1⟩ : ∃ t, textS n1 (i1) h1 = t := ⟨_, rfl⟩
  obtain ⟨t2, et2⟩ : ∃ t, textS n2 (i2) h2 = t := ⟨_, rfl⟩
  have hz : (3 : Int) ≤ (t1.size : Int) := by have := textS_size k1; rw [et1] at this; omega
  have q : (t1.toList == t2.toList) = false := toList_ne (fun e => by
    have := textS_inj k1 k2 (fun z => by omega) (fun z => by omega) (by rw [et1, et2, e])
    omega)
  have HM : Hid (∀ w, Gives Tryd.prog 12 #[.agg #[.int .i64 n1, .int .i64 i1, .int .i64 h1]] w (.bool true)) := Lib.hid (fun w => (may_any n1 i1 h1 w).cast (by rw [m1]))
  have HN : Hid (∀ w, Gives Tryd.prog 12 #[.agg #[.int .i64 n2, .int .i64 i2, .int .i64 h2]] w (.bool true)) := Lib.hid (fun w => (may_any n2 i2 h2 w).cast (by rw [m2]))
  have HU : Hid (∀ w, Tab w → Gives Tryd.prog 16 #[.agg #[.int .i64 n1, .int .i64 i1, .int .i64 h1]] w (.string t1)) := Lib.hid (fun w ht => (text_any n1 i1 h1 w ht).cast (by rw [et1]))
  have HV : Hid (∀ w, Tab w → Gives Tryd.prog 16 #[.agg #[.int .i64 n2, .int .i64 i2, .int .i64 h2]] w (.string t2)) := Lib.hid (fun w ht => (text_any n2 i2 h2 w ht).cast (by rw [et2]))
  try (first | (have e1 : ((h1 : Int) == 4) = true := by first | exact beq_iff_eq.2 (by omega) | (rw [bne_iff_ne]; omega)) | (have e1 : ((h1 : Int) == 4) = false := by first | exact beq_eq_false_iff_ne.2 (by omega) | exact bne_eq_false_iff_eq.2 (by omega)))
  try (first | (have e2 : ((h2 : Int) == 4) = true := by first | exact beq_iff_eq.2 (by omega) | (rw [bne_iff_ne]; omega)) | (have e2 : ((h2 : Int) == 4) = false := by first | exact beq_eq_false_iff_ne.2 (by omega) | exact bne_eq_false_iff_eq.2 (by omega)))
  try (first | (have e3 : ((n1 : Int) == n2) = true := by first | exact beq_iff_eq.2 (by omega) | (rw [bne_iff_ne]; omega)) | (have e3 : ((n1 : Int) == n2) = false := by first | exact beq_eq_false_iff_ne.2 (by omega) | exact bne_eq_false_iff_eq.2 (by omega)))
  try (first | (have e4 : ((h1 : Int) == h2) = true := by first | exact beq_iff_eq.2 (by omega) | (rw [bne_iff_ne]; omega)) | (have e4 : ((h1 : Int) == h2) = false := by first | exact beq_eq_false_iff_ne.2 (by omega) | exact bne_eq_false_iff_eq.2 (by omega)))
  try (first | (have e5 : ((i1 : Int) == i2) = true := by first | exact beq_iff_eq.2 (by omega) | (rw [bne_iff_ne]; omega)) | (have e5 : ((i1 : Int) == i2) = false := by first | exact beq_eq_false_iff_ne.2 (by omega) | exact bne_eq_false_iff_eq.2 (by omega)))
  clear m1 m2 l1 l2 en  k1 k2 et1 et2 ht
  go_enter Tryd.func8, Tryd.ntmps8
  go_wp2_with fail
  refine Gives.mono' (HM.out _) ?_
  intro x1
  go_wp2_with fail
  refine Gives.cutOn (fun W2 => ClaimAt W2 w.heap.size n1 i1 h1 ∧ ClaimAt W2 (w.heap.size + 1) n2 i2 h2 ∧ Below w.heap.size w W2) (HN.out _) ?hF ?_
  case hF =>
    intro x
    exact ⟨⟨by simp [go_sem], by simp [go_sem], by simp [go_sem], by simp [go_sem], by simp [go_sem], by simp [go_sem], by simp [go_sem]⟩, ⟨by simp [go_sem], by simp [go_sem], by simp [go_sem], by simp [go_sem], by simp [go_sem], by simp [go_sem], by simp [go_sem]⟩, (by repeat (first | exact ext_refl _ | refine ext_alloc ?_ _ | refine ext_later ?_ _ | refine ext_drew ?_ | refine ext_drewN ?_ _ | refine ext_setCell ?_ _ _ (by first | assumption | (dsimp only; omega)) | assumption))⟩
  rintro W2 ⟨⟨a0, a1, a2, a3, a5, a6, a7⟩, ⟨b0, b1, b2, b3, b5, b6, b7⟩, hb⟩
  go_wp2_with fail
  refine wp_region_later (by kernel_rfl) (by kernel_rfl) ?_
  repeat (go_big_quiet_step (first | (go_at_call 16; with_reducible exact later_of (HU.out _ (HT.out.later (by repeat (first | exact ext_refl _ | refine ext_alloc ?_ _ | refine ext_later ?_ _ | refine ext_drew ?_ | refine ext_drewN ?_ _ | refine ext_setCell ?_ _ _ (by first | assumption | (dsimp only; omega)) | assumption))))) | (go_at_call 16; with_reducible exact later_of (HV.out _ (HT.out.later (by repeat (first | exact ext_refl _ | refine ext_alloc ?_ _ | refine ext_later ?_ _ | refine ext_drew ?_ | refine ext_drewN ?_ _ | refine ext_setCell ?_ _ _ (by first | assumption | (dsimp only; omega)) | assumption))))) | (go_at_call 18; with_reducible exact later_of (HA.out _ (HT.out.later (by repeat (first | exact ext_refl _ | refine ext_alloc ?_ _ | refine ext_later ?_ _ | refine ext_drew ?_ | refine ext_drewN ?_ _ | refine ext_setCell ?_ _ _ (by first | assumption | (dsimp only; omega)) | assumption)))))))
  refine wpQuiet_nil ?_
  rintro _ ⟨x9, rfl⟩
  go_wp2
  all_goals (go_ret; exact ⟨by first | rfl | (simp; omega), Later.ex (by repeat (first | exact ext_refl _ | refine ext_alloc ?_ _ | refine ext_later ?_ _ | refine ext_drew ?_ | refine ext_drewN ?_ _ | refine ext_setCell ?_ _ _ (by first | assumption | (dsimp only; omega)) | assumption))⟩)

set_option maxHeartbeats 4000000 in
set_option maxRecDepth 100000 in
theorem texts_l00i (n1 i1 h1 n2 i2 h2 : Int) (m1 : mayB n1 i1 h1 = true) (m2 : mayB n2 i2 h2 = true) (l1 : h1 ≠ 4) (l2 : h2 ≠ 4) (en : n1 = n2) (ei : i1 ≠ i2) (w : World) (ht : Tab w) : Gives Tryd.prog 8 #[.agg #[.int .i64 n1, .int .i64 i1, .int .i64 h1], .agg #[.int .i64 n2, .int .i64 i2, .int .i64 h2]] w (.bool true) := by
  unfold Gives
  have HT := Lib.hid ht
  have HA : Hid (∀ w, Tab w → Gives Tryd.prog 18 #[] w (.bool true)) := Lib.hid awake_any
  have k1 : mayB n1 (i1) h1 = true := by simp only [mayB, decide_eq_true_eq] at m1 ⊢; omega
  have k2 : mayB n2 (i2) h2 = true := by simp only [mayB, decide_eq_true_eq] at m2 ⊢; omega
  obtain ⟨t1, et1⟩ : ∃ t, textS n1 (i1) h1 = t := ⟨_, rfl⟩
  obtain ⟨t2, et2⟩ : ∃ t, textS n2 (i2) h2 = t := ⟨_, rfl⟩
  have hz : (3 : Int) ≤ (t1.size : Int) := by have := textS_size k1; rw [et1] at this; omega
  have q : (t1.toList == t2.toList) = false := toList_ne (fun e => by
    have := textS_inj k1 k2 (fun z => by omega) (fun z => by omega) (by rw [et1, et2, e])
    omega)
  have HM : Hid (∀ w, Gives Tryd.prog 12 #[.agg #[.int .i64 n1, .int .i64 i1, .int .i64 h1]] w (.bool true)) := Lib.hid (fun w => (may_any n1 i1 h1 w).cast (by rw [m1]))
  have HN : Hid (∀ w, Gives Tryd.prog 12 #[.agg #[.int .i64 n2, .int .i64 i2, .int .i64 h2]] w (.bool true)) := Lib.hid (fun w => (may_any n2 i2 h2 w).cast (by rw [m2]))
  have HU : Hid (∀ w, Tab w → Gives Tryd.prog 16 #[.agg #[.int .i64 n1, .int .i64 i1, .int .i64 h1]] w (.string t1)) := Lib.hid (fun w ht => (text_any n1 i1 h1 w ht).cast (by rw [et1]))
  have HV : Hid (∀ w, Tab w → Gives Tryd.prog 16 #[.agg #[.int .i64 n2, .int .i64 i2, .int .i64 h2]] w (.string t2)) := Lib.hid (fun w ht => (text_any n2 i2 h2 w ht).cast (by rw [et2]))
  try (first | (have e1 : ((h1 : Int) == 4) = true := by first | exact beq_iff_eq.2 (by omega) | (rw [bne_iff_ne]; omega)) | (have e1 : ((h1 : Int) == 4) = false := by first | exact beq_eq_false_iff_ne.2 (by omega) | exact bne_eq_false_iff_eq.2 (by omega)))
  try (first | (have e2 : ((h2 : Int) == 4) = true := by first | exact beq_iff_eq.2 (by omega) | (rw [bne_iff_ne]; omega)) | (have e2 : ((h2 : Int) == 4) = false := by first | exact beq_eq_false_iff_ne.2 (by omega) | exact bne_eq_false_iff_eq.2 (by omega)))
  try (first | (have e3 : ((n1 : Int) == n2) = true := by first | exact beq_iff_eq.2 (by omega) | (rw [bne_iff_ne]; omega)) | (have e3 : ((n1 : Int) == n2) = false := by first | exact beq_eq_false_iff_ne.2 (by omega) | exact bne_eq_false_iff_eq.2 (by omega)))
  try (first | (have e4 : ((h1 : Int) == h2) = true := by first | exact beq_iff_eq.2 (by omega) | (rw [bne_iff_ne]; omega)) | (have e4 : ((h1 : Int) == h2) = false := by first | exact beq_eq_false_iff_ne.2 (by omega) | exact bne_eq_false_iff_eq.2 (by omega)))
  try (first | (have e5 : ((i1 : Int) == i2) = true := by first | exact beq_iff_eq.2 (by omega) | (rw [bne_iff_ne]; omega)) | (have e5 : ((i1 : Int) == i2) = false := by first | exact beq_eq_false_iff_ne.2 (by omega) | exact bne_eq_false_iff_eq.2 (by omega)))
  clear m1 m2 l1 l2 en ei k1 k2 et1 et2 ht
  go_enter Tryd.func8, Tryd.ntmps8
  go_wp2_with fail
  refine Gives.mono' (HM.out _) ?_
  intro x1
  go_wp2_with fail
  refine Gives.cutOn (fun W2 => ClaimAt W2 w.heap.size n1 i1 h1 ∧ ClaimAt W2 (w.heap.size + 1) n2 i2 h2 ∧ Below w.heap.size w W2) (HN.out _) ?hF ?_
  case hF =>
    intro x
    exact ⟨⟨by simp [go_sem], by simp [go_sem], by simp [go_sem], by simp [go_sem], by simp [go_sem], by simp [go_sem], by simp [go_sem]⟩, ⟨by simp [go_sem], by simp [go_sem], by simp [go_sem], by simp [go_sem], by simp [go_sem], by simp [go_sem], by simp [go_sem]⟩, (by repeat (first | exact ext_refl _ | refine ext_alloc ?_ _ | refine ext_later ?_ _ | refine ext_drew ?_ | refine ext_drewN ?_ _ | refine ext_setCell ?_ _ _ (by first | assumption | (dsimp only; omega)) | assumption))⟩
  rintro W2 ⟨⟨a0, a1, a2, a3, a5, a6, a7⟩, ⟨b0, b1, b2, b3, b5, b6, b7⟩, hb⟩
  go_wp2_with fail
  refine wp_region_later (by kernel_rfl) (by kernel_rfl) ?_
  repeat (go_big_quiet_step (first | (go_at_call 16; with_reducible exact later_of (HU.out _ (HT.out.later (by repeat (first | exact ext_refl _ | refine ext_alloc ?_ _ | refine ext_later ?_ _ | refine ext_drew ?_ | refine ext_drewN ?_ _ | refine ext_setCell ?_ _ _ (by first | assumption | (dsimp only; omega)) | assumption))))) | (go_at_call 16; with_reducible exact later_of (HV.out _ (HT.out.later (by repeat (first | exact ext_refl _ | refine ext_alloc ?_ _ | refine ext_later ?_ _ | refine ext_drew ?_ | refine ext_drewN ?_ _ | refine ext_setCell ?_ _ _ (by first | assumption | (dsimp only; omega)) | assumption))))) | (go_at_call 18; with_reducible exact later_of (HA.out _ (HT.out.later (by repeat (first | exact ext_refl _ | refine ext_alloc ?_ _ | refine ext_later ?_ _ | refine ext_drew ?_ | refine ext_drewN ?_ _ | refine ext_setCell ?_ _ _ (by first | assumption | (dsimp only; omega)) | assumption)))))))
  refine wpQuiet_nil ?_
  rintro _ ⟨x9, rfl⟩
  go_wp2
  all_goals (go_ret; exact ⟨by first | rfl | (simp; omega), Later.ex (by repeat (first | exact ext_refl _ | refine ext_alloc ?_ _ | refine ext_later ?_ _ | refine ext_drew ?_ | refine ext_drewN ?_ _ | refine ext_setCell ?_ _ _ (by first | assumption | (dsimp only; omega)) | assumption))⟩)

set_option maxHeartbeats 4000000 in
set_option maxRecDepth 100000 in
theorem texts_l00h (n1 i1 h1 n2 i2 h2 : Int) (m1 : mayB n1 i1 h1 = true) (m2 : mayB n2 i2 h2 = true) (l1 : h1 ≠ 4) (l2 : h2 ≠ 4) (en : n1 = n2) (eh : h1 ≠ h2) (w : World) (ht : Tab w) : Gives Tryd.prog 8 #[.agg #[.int .i64 n1, .int .i64 i1, .int .i64 h1], .agg #[.int .i64 n2, .int .i64 i2, .int .i64 h2]] w (.bool true) := by
  unfold Gives
  have HT := Lib.hid ht
  have HA : Hid (∀ w, Tab w → Gives Tryd.prog 18 #[] w (.bool true)) := Lib.hid awake_any
  have k1 : mayB n1 (i1) h1 = true := by simp only [mayB, decide_eq_true_eq] at m1 ⊢; omega
  have k2 : mayB n2 (i2) h2 = true := by simp only [mayB, decide_eq_true_eq] at m2 ⊢; omega
  obtain ⟨t1, et1⟩ : ∃ t, textS n1 (i1) h1 = t := ⟨_, rfl⟩
  obtain ⟨t2, et2⟩ : ∃ t, textS n2 (i2) h2 = t := ⟨_, rfl⟩
  have hz : (3 : Int) ≤ (t1.size : Int) := by have := textS_size k1; rw [et1] at this; omega
  have q : (t1.toList == t2.toList) = false := toList_ne (fun e => by
    have := textS_inj k1 k2 (fun z => by omega) (fun z => by omega) (by rw [et1, et2, e])
    omega)
  have HM : Hid (∀ w, Gives Tryd.prog 12 #[.agg #[.int .i64 n1, .int .i64 i1, .int .i64 h1]] w (.bool true)) := Lib.hid (fun w => (may_any n1 i1 h1 w).cast (by rw [m1]))
  have HN : Hid (∀ w, Gives Tryd.prog 12 #[.agg #[.int .i64 n2, .int .i64 i2, .int .i64 h2]] w (.bool true)) := Lib.hid (fun w => (may_any n2 i2 h2 w).cast (by rw [m2]))
  have HU : Hid (∀ w, Tab w → Gives Tryd.prog 16 #[.agg #[.int .i64 n1, .int .i64 i1, .int .i64 h1]] w (.string t1)) := Lib.hid (fun w ht => (text_any n1 i1 h1 w ht).cast (by rw [et1]))
  have HV : Hid (∀ w, Tab w → Gives Tryd.prog 16 #[.agg #[.int .i64 n2, .int .i64 i2, .int .i64 h2]] w (.string t2)) := Lib.hid (fun w ht => (text_any n2 i2 h2 w ht).cast (by rw [et2]))
  try (first | (have e1 : ((h1 : Int) == 4) = true := by first | exact beq_iff_eq.2 (by omega) | (rw [bne_iff_ne]; omega)) | (have e1 : ((h1 : Int) == 4) = false := by first | exact beq_eq_false_iff_ne.2 (by omega) | exact bne_eq_false_iff_eq.2 (by omega)))
  try (first | (have e2 : ((h2 : Int) == 4) = true := by first | exact beq_iff_eq.2 (by omega) | (rw [bne_iff_ne]; omega)) | (have e2 : ((h2 : Int) == 4) = false := by first | exact beq_eq_false_iff_ne.2 (by omega) | exact bne_eq_false_iff_eq.2 (by omega)))
  try (first | (have e3 : ((n1 : Int) == n2) = true := by first | exact beq_iff_eq.2 (by omega) | (rw [bne_iff_ne]; omega)) | (have e3 : ((n1 : Int) == n2) = false := by first | exact beq_eq_false_iff_ne.2 (by omega) | exact bne_eq_false_iff_eq.2 (by omega)))
  try (first | (have e4 : ((h1 : Int) == h2) = true := by first | exact beq_iff_eq.2 (by omega) | (rw [bne_iff_ne]; omega)) | (have e4 : ((h1 : Int) == h2) = false := by first | exact beq_eq_false_iff_ne.2 (by omega) | exact bne_eq_false_iff_eq.2 (by omega)))
  try (first | (have e5 : ((i1 : Int) == i2) = true := by first | exact beq_iff_eq.2 (by omega) | (rw [bne_iff_ne]; omega)) | (have e5 : ((i1 : Int) == i2) = false := by first | exact beq_eq_false_iff_ne.2 (by omega) | exact bne_eq_false_iff_eq.2 (by omega)))
  clear m1 m2 l1 l2 en eh k1 k2 et1 et2 ht
  go_enter Tryd.func8, Tryd.ntmps8
  go_wp2_with fail
  refine Gives.mono' (HM.out _) ?_
  intro x1
  go_wp2_with fail
  refine Gives.cutOn (fun W2 => ClaimAt W2 w.heap.size n1 i1 h1 ∧ ClaimAt W2 (w.heap.size + 1) n2 i2 h2 ∧ Below w.heap.size w W2) (HN.out _) ?hF ?_
  case hF =>
    intro x
    exact ⟨⟨by simp [go_sem], by simp [go_sem], by simp [go_sem], by simp [go_sem], by simp [go_sem], by simp [go_sem], by simp [go_sem]⟩, ⟨by simp [go_sem], by simp [go_sem], by simp [go_sem], by simp [go_sem], by simp [go_sem], by simp [go_sem], by simp [go_sem]⟩, (by repeat (first | exact ext_refl _ | refine ext_alloc ?_ _ | refine ext_later ?_ _ | refine ext_drew ?_ | refine ext_drewN ?_ _ | refine ext_setCell ?_ _ _ (by first | assumption | (dsimp only; omega)) | assumption))⟩
  rintro W2 ⟨⟨a0, a1, a2, a3, a5, a6, a7⟩, ⟨b0, b1, b2, b3, b5, b6, b7⟩, hb⟩
  go_wp2_with fail
  refine wp_region_later (by kernel_rfl) (by kernel_rfl) ?_
  repeat (go_big_quiet_step (first | (go_at_call 16; with_reducible exact later_of (HU.out _ (HT.out.later (by repeat (first | exact ext_refl _ | refine ext_alloc ?_ _ | refine ext_later ?_ _ | refine ext_drew ?_ | refine ext_drewN ?_ _ | refine ext_setCell ?_ _ _ (by first | assumption | (dsimp only; omega)) | assumption))))) | (go_at_call 16; with_reducible exact later_of (HV.out _ (HT.out.later (by repeat (first | exact ext_refl _ | refine ext_alloc ?_ _ | refine ext_later ?_ _ | refine ext_drew ?_ | refine ext_drewN ?_ _ | refine ext_setCell ?_ _ _ (by first | assumption | (dsimp only; omega)) | assumption))))) | (go_at_call 18; with_reducible exact later_of (HA.out _ (HT.out.later (by repeat (first | exact ext_refl _ | refine ext_alloc ?_ _ | refine ext_later ?_ _ | refine ext_drew ?_ | refine ext_drewN ?_ _ | refine ext_setCell ?_ _ _ (by first | assumption | (dsimp only; omega)) | assumption)))))))
  refine wpQuiet_nil ?_
  rintro _ ⟨x9, rfl⟩
  go_wp2
  all_goals (go_ret; exact ⟨by first | rfl | (simp; omega), Later.ex (by repeat (first | exact ext_refl _ | refine ext_alloc ?_ _ | refine ext_later ?_ _ | refine ext_drew ?_ | refine ext_drewN ?_ _ | refine ext_setCell ?_ _ _ (by first | assumption | (dsimp only; omega)) | assumption))⟩)

theorem texts_any (n1 i1 h1 n2 i2 h2 : Int) (w : World) (ht : Tab w) : Gives Tryd.prog 8 #[.agg #[.int .i64 n1, .int .i64 i1, .int .i64 h1], .agg #[.int .i64 n2, .int .i64 i2, .int .i64 h2]] w (.bool true) := by
  cases m1 : mayB n1 i1 h1
  · exact texts_bad1 n1 i1 h1 n2 i2 h2 m1 w ht
  cases m2 : mayB n2 i2 h2
  · exact texts_bad2 n1 i1 h1 n2 i2 h2 m1 m2 w ht
  by_cases l1 : h1 = 4
  · by_cases l2 : h2 = 4
    · by_cases en : n1 = n2
      · exact texts_l11E n1 i1 h1 n2 i2 h2 m1 m2 l1 l2 en.symm (by omega) w ht
      · exact texts_l11n n1 i1 h1 n2 i2 h2 m1 m2 l1 l2 en w ht
    · by_cases en : n1 = n2
      · exact texts_l10h n1 i1 h1 n2 i2 h2 m1 m2 l1 l2 en (by omega) w ht
      · exact texts_l10n n1 i1 h1 n2 i2 h2 m1 m2 l1 l2 en w ht
  · by_cases l2 : h2 = 4
    · by_cases en : n1 = n2
      · exact texts_l01h n1 i1 h1 n2 i2 h2 m1 m2 l1 l2 en (by omega) w ht
      · exact texts_l01n n1 i1 h1 n2 i2 h2 m1 m2 l1 l2 en w ht
    · by_cases en : n1 = n2
      · by_cases ei : i1 = i2
        · by_cases eh : h1 = h2
          · exact texts_l00E n1 i1 h1 n2 i2 h2 m1 m2 l1 l2 en.symm eh.symm ei.symm w ht
          · exact texts_l00h n1 i1 h1 n2 i2 h2 m1 m2 l1 l2 en eh w ht
        · exact texts_l00i n1 i1 h1 n2 i2 h2 m1 m2 l1 l2 en ei w ht
      · exact texts_l00n n1 i1 h1 n2 i2 h2 m1 m2 l1 l2 en w ht
end Go.Proofs.YtbdhnmjmbbahhaaDoor
