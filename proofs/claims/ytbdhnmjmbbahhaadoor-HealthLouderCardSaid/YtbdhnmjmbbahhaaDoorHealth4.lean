/- Texts of claims, second part, and refutations: what each function gives. -/
import Derived.Test.YtbdhnmjmbbahhaaDoorHealth3
namespace Go.Proofs.YtbdhnmjmbbahhaaDoor
open Go Go.RowKit

theorem mayB_inc {n i h : Int} (hm : mayB n i h = true) : 0 ≤ n ∧ n < 8 ∧ 0 ≤ i ∧ i ≤ 1000000 ∧ 0 ≤ h ∧ h ≤ 4 := by
  simp only [mayB, decide_eq_true_eq] at hm; omega
theorem saidS_size (i h : Int) (h0 : 0 ≤ i) (h1 : i ≤ 1000000) : (saidS i h).size ≤ 40 := by
  have := itoaS_size i h0 h1
  unfold saidS
  repeat' split
  all_goals simp only [ByteArray.size_append', ByteArray.size_mk']
  all_goals simp
  all_goals omega

set_option maxHeartbeats 400000 in
theorem text_any (n i h : Int) (w : World) (ht : Tab w) : Gives Tryd.prog 16 #[.agg #[.int .i64 n, .int .i64 i, .int .i64 h]] w (.string (textS n i h)) := by
  unfold Gives
  have HT := Lib.hid ht
  clear ht
  cases hm : mayB n i h
  · have HH : Hid (textS n i h = ⟨#[]⟩) := Lib.hid (by simp [textS, hm])
    have HM : Hid (∀ w, Gives Tryd.prog 12 #[.agg #[.int .i64 n, .int .i64 i, .int .i64 h]] w (.bool false)) := Lib.hid (fun w => (may_any n i h w).cast (by rw [hm]))
    clear hm
    go_enter Tryd.func16, Tryd.ntmps16
    go_wp2_with (go_at_call 12; refine Gives.mono' (HM.out _) ?_; intro x)
    all_goals (go_ret; exact ⟨by rw [HH.out]; rfl, Later.ex (by repeat (first | exact ext_refl _ | refine ext_alloc ?_ _ | refine ext_later ?_ _ | refine ext_drew ?_ | refine ext_drewN ?_ _))⟩)
  · have HH : Hid (textS n i h = itoaS n ++ ⟨#[58]⟩ ++ saidS i h) := Lib.hid (by simp [textS, hm])
    have HM : Hid (∀ w, Gives Tryd.prog 12 #[.agg #[.int .i64 n, .int .i64 i, .int .i64 h]] w (.bool true)) := Lib.hid (fun w => (may_any n i h w).cast (by rw [hm]))
    obtain ⟨n0, n1, i0, i1, _, _⟩ := mayB_inc hm
    have z1 := itoaS_size n n0 (by omega)
    have z2 := saidS_size i h i0 i1
    clear hm
    go_enter Tryd.func16, Tryd.ntmps16
    go_wp2_with (go_at_call 12; refine Gives.mono' (HM.out _) ?_; intro x)
    refine wp_region_later (by kernel_rfl) (by kernel_rfl) ?_
    repeat (go_big_quiet_step (first | (go_at_call 28; exact later_of (itoa_any _ n0 (by omega) _ (HT.out.later (by repeat (first | exact ext_refl _ | refine ext_alloc ?_ _ | refine ext_later ?_ _ | refine ext_drew ?_ | refine ext_drewN ?_ _))))) | (go_at_call 29; exact later_of (said_any _ _ _ i0 i1 _ (HT.out.later (by repeat (first | exact ext_refl _ | refine ext_alloc ?_ _ | refine ext_later ?_ _ | refine ext_drew ?_ | refine ext_drewN ?_ _)))))))
    refine wpQuiet_nil ?_
    rintro _ ⟨x1, rfl⟩
    go_wp2
    all_goals (go_ret; exact ⟨by rw [HH.out]; rfl, Later.ex (by repeat (first | exact ext_refl _ | refine ext_alloc ?_ _ | refine ext_later ?_ _ | refine ext_drew ?_ | refine ext_drewN ?_ _))⟩)

set_option maxHeartbeats 400000 in
theorem refText_any (n i h : Int) (w : World) (ht : Tab w) : Gives Tryd.prog 17 #[.agg #[.int .i64 n, .int .i64 i, .int .i64 h]] w (.string (textS n i h)) := by
  unfold Gives
  have HT := Lib.hid ht
  clear ht
  cases hm : mayB n i h
  · have HH : Hid (textS n i h = ⟨#[]⟩) := Lib.hid (by simp [textS, hm])
    have HM : Hid (∀ w, Gives Tryd.prog 13 #[.agg #[.int .i64 n, .int .i64 i, .int .i64 h]] w (.bool false)) := Lib.hid (fun w => (refMay_any n i h w).cast (by rw [hm]))
    clear hm
    go_enter Tryd.func17, Tryd.ntmps17
    go_wp2_with (go_at_call 13; refine Gives.mono' (HM.out _) ?_; intro x)
    all_goals (go_ret; exact ⟨by rw [HH.out]; rfl, Later.ex (by repeat (first | exact ext_refl _ | refine ext_alloc ?_ _ | refine ext_later ?_ _ | refine ext_drew ?_ | refine ext_drewN ?_ _))⟩)
  · have HM : Hid (∀ w, Gives Tryd.prog 13 #[.agg #[.int .i64 n, .int .i64 i, .int .i64 h]] w (.bool true)) := Lib.hid (fun w => (refMay_any n i h w).cast (by rw [hm]))
    obtain ⟨n0, n1, i0, i1, _, _⟩ := mayB_inc hm
    have z1 := itoaS_size n n0 (by omega)
    have z2 := itoaS_size i i0 i1
    rcases (show h = 1 ∨ h = 2 ∨ h = 3 ∨ h = 4 ∨ h = 0 from by omega) with q | q | q | q | q
    all_goals first | (have HH : Hid (textS n i h = itoaS n ++ ⟨#[58]⟩ ++ ⟨#[97, 108, 105, 118, 101, 64]⟩ ++ itoaS i) := Lib.hid (by unfold textS saidS; rw [if_pos hm, if_pos (by omega)]; all_goals (apply ByteArray.ext; apply Array.toList_inj.1; simp [ByteArray.data_append]))) | (have HH : Hid (textS n i h = itoaS n ++ ⟨#[58]⟩ ++ ⟨#[115, 117, 115, 112, 101, 99, 116, 64]⟩ ++ itoaS i) := Lib.hid (by unfold textS saidS; rw [if_pos hm, if_neg (by omega), if_pos (by omega)]; all_goals (apply ByteArray.ext; apply Array.toList_inj.1; simp [ByteArray.data_append]))) | (have HH : Hid (textS n i h = itoaS n ++ ⟨#[58]⟩ ++ ⟨#[100, 101, 97, 100, 64]⟩ ++ itoaS i) := Lib.hid (by unfold textS saidS; rw [if_pos hm, if_neg (by omega), if_neg (by omega), if_pos (by omega)]; all_goals (apply ByteArray.ext; apply Array.toList_inj.1; simp [ByteArray.data_append]))) | (have HH : Hid (textS n i h = itoaS n ++ ⟨#[58]⟩ ++ ⟨#[108, 101, 102, 116]⟩) := Lib.hid (by unfold textS saidS; rw [if_pos hm, if_neg (by omega), if_neg (by omega), if_neg (by omega), if_pos (by omega)]; all_goals (apply ByteArray.ext; apply Array.toList_inj.1; simp [ByteArray.data_append]))) | (have HH : Hid (textS n i h = itoaS n ++ ⟨#[58]⟩ ++ ⟨#[45]⟩) := Lib.hid (by unfold textS saidS; rw [if_pos hm, if_neg (by omega), if_neg (by omega), if_neg (by omega), if_neg (by omega)]; all_goals (apply ByteArray.ext; apply Array.toList_inj.1; simp [ByteArray.data_append])))
    all_goals try (first | (have e0 : ((h : Int) == 0) = true := by first | exact beq_iff_eq.2 (by omega) | (rw [bne_iff_ne]; omega)) | (have e0 : ((h : Int) == 0) = false := by first | exact beq_eq_false_iff_ne.2 (by omega) | exact bne_eq_false_iff_eq.2 (by omega)))
    all_goals try (first | (have e1 : ((h : Int) == 1) = true := by first | exact beq_iff_eq.2 (by omega) | (rw [bne_iff_ne]; omega)) | (have e1 : ((h : Int) == 1) = false := by first | exact beq_eq_false_iff_ne.2 (by omega) | exact bne_eq_false_iff_eq.2 (by omega)))
    all_goals try (first | (have e2 : ((h : Int) == 2) = true := by first | exact beq_iff_eq.2 (by omega) | (rw [bne_iff_ne]; omega)) | (have e2 : ((h : Int) == 2) = false := by first | exact beq_eq_false_iff_ne.2 (by omega) | exact bne_eq_false_iff_eq.2 (by omega)))
    all_goals try (first | (have e3 : ((h : Int) == 3) = true := by first | exact beq_iff_eq.2 (by omega) | (rw [bne_iff_ne]; omega)) | (have e3 : ((h : Int) == 3) = false := by first | exact beq_eq_false_iff_ne.2 (by omega) | exact bne_eq_false_iff_eq.2 (by omega)))
    all_goals clear q hm
    all_goals
      go_enter Tryd.func17, Tryd.ntmps17
      go_wp2_with (first | (go_at_call 13; refine Gives.mono' (HM.out _) ?_; intro x) | (go_at_call_of 28 n; refine Gives.mono' (itoa_any n n0 (by omega) _ (HT.out.later (by repeat (first | exact ext_refl _ | refine ext_alloc ?_ _ | refine ext_later ?_ _ | refine ext_drew ?_ | refine ext_drewN ?_ _)))) ?_; intro x) | (go_at_call_of 28 i; refine Gives.mono' (itoa_any i i0 i1 _ (HT.out.later (by repeat (first | exact ext_refl _ | refine ext_alloc ?_ _ | refine ext_later ?_ _ | refine ext_drew ?_ | refine ext_drewN ?_ _)))) ?_; intro x))
      all_goals (go_ret; exact ⟨by rw [HH.out]; rfl, Later.ex (by repeat (first | exact ext_refl _ | refine ext_alloc ?_ _ | refine ext_later ?_ _ | refine ext_drew ?_ | refine ext_drewN ?_ _))⟩)
end Go.Proofs.YtbdhnmjmbbahhaaDoor
