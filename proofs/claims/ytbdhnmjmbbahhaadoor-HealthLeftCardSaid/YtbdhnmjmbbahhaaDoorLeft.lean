/- HealthLeft's walk: who left is above all; of one incarnation dead is above suspect, that above alive; a greater one is above all of a lesser one. -/
import Derived.Test.YtbdhnmjmbbahhaaDoorForms
import Derived.Test.YtbdhnmjmbbahhaaDoorMath
import Derived.PlainAid
namespace Go.Proofs.YtbdhnmjmbbahhaaDoor
open Go Go.RowKit

theorem umod_bounds (n k : Int) (hk : 0 < k) (hk2 : k ≤ 1000) : 0 ≤ wrap64 ((IntKind.u64.wrap n).tmod k) ∧ wrap64 ((IntKind.u64.wrap n).tmod k) < k := by
  have h0 : 0 ≤ IntKind.u64.wrap n := by simp only [IntKind.wrap_u64]; omega
  rw [Int.tmod_eq_emod_of_nonneg h0]
  have h1 := Int.emod_nonneg (IntKind.u64.wrap n) (show k ≠ 0 by omega)
  have h2 := Int.emod_lt_of_pos (IntKind.u64.wrap n) hk
  rw [IntWalk.wrap64_in _ ⟨by omega, by omega⟩]
  exact ⟨h1, h2⟩

set_option maxHeartbeats 8000000 in
set_option maxRecDepth 100000 in
theorem left_any (n i m : Int) (w : World) (ht : Tab w) : Gives Tryd.prog 7 #[.int .i64 n, .int .i64 i, .int .i64 m] w (.bool true) := by
  unfold Gives
  have HT := Lib.hid ht
  have bA := umod_bounds n 8 (by omega) (by omega)
  have bB := umod_bounds i 1000 (by omega) (by omega)
  have bM := umod_bounds m 1000 (by omega) (by omega)
  obtain ⟨A, eA⟩ : ∃ A, wrap64 ((IntKind.u64.wrap n).tmod 8) = A := ⟨_, rfl⟩
  obtain ⟨B, eB⟩ : ∃ B, wrap64 ((IntKind.u64.wrap i).tmod 1000) = B := ⟨_, rfl⟩
  obtain ⟨M, eM⟩ : ∃ M, wrap64 ((IntKind.u64.wrap m).tmod 1000) = M := ⟨_, rfl⟩
  rw [eA] at bA
  rw [eB] at bB
  rw [eM] at bM
  obtain ⟨a0, a1⟩ := bA
  obtain ⟨b0, b1⟩ := bB
  obtain ⟨m0, m1⟩ := bM
  have HA : Hid (∀ w, Tab w → Gives Tryd.prog 18 #[] w (.bool true)) := Lib.hid awake_any
  have HM0 : Hid (∀ w, Gives Tryd.prog 12 #[.agg #[.int .i64 A, .int .i64 (B), .int .i64 1]] w (.bool true)) := Lib.hid (fun w => (may_any A (B) 1 w).cast (by rw [show mayB A (B) 1 = true from by simp only [mayB, decide_eq_true_eq]; omega]))
  have HM1 : Hid (∀ w, Gives Tryd.prog 12 #[.agg #[.int .i64 A, .int .i64 (B), .int .i64 2]] w (.bool true)) := Lib.hid (fun w => (may_any A (B) 2 w).cast (by rw [show mayB A (B) 2 = true from by simp only [mayB, decide_eq_true_eq]; omega]))
  have HM2 : Hid (∀ w, Gives Tryd.prog 12 #[.agg #[.int .i64 A, .int .i64 (B), .int .i64 3]] w (.bool true)) := Lib.hid (fun w => (may_any A (B) 3 w).cast (by rw [show mayB A (B) 3 = true from by simp only [mayB, decide_eq_true_eq]; omega]))
  have HM3 : Hid (∀ w, Gives Tryd.prog 12 #[.agg #[.int .i64 A, .int .i64 (B + (1 + M)), .int .i64 1]] w (.bool true)) := Lib.hid (fun w => (may_any A (B + (1 + M)) 1 w).cast (by rw [show mayB A (B + (1 + M)) 1 = true from by simp only [mayB, decide_eq_true_eq]; omega]))
  have HM4 : Hid (∀ w, Gives Tryd.prog 12 #[.agg #[.int .i64 A, .int .i64 (0), .int .i64 4]] w (.bool true)) := Lib.hid (fun w => (may_any A (0) 4 w).cast (by rw [show mayB A (0) 4 = true from by simp only [mayB, decide_eq_true_eq]; omega]))
  have HC00 : Hid (∀ w, Gives Tryd.prog 14 #[.agg #[.int .i64 A, .int .i64 (B), .int .i64 1], .agg #[.int .i64 A, .int .i64 (B), .int .i64 1]] w (.int .i64 0)) := Lib.hid (fun w => (compare_any A (B) 1 A (B) 1 w).cast (by rw [show cmpC (B) 1 (B) 1 = 0 from by rw [cmpC_spec]; repeat' split <;> omega]))
  have HC01 : Hid (∀ w, Gives Tryd.prog 14 #[.agg #[.int .i64 A, .int .i64 (B), .int .i64 1], .agg #[.int .i64 A, .int .i64 (B), .int .i64 2]] w (.int .i64 (-1))) := Lib.hid (fun w => (compare_any A (B) 1 A (B) 2 w).cast (by rw [show cmpC (B) 1 (B) 2 = (-1) from by rw [cmpC_spec]; repeat' split <;> omega]))
  have HC02 : Hid (∀ w, Gives Tryd.prog 14 #[.agg #[.int .i64 A, .int .i64 (B), .int .i64 1], .agg #[.int .i64 A, .int .i64 (B), .int .i64 3]] w (.int .i64 (-1))) := Lib.hid (fun w => (compare_any A (B) 1 A (B) 3 w).cast (by rw [show cmpC (B) 1 (B) 3 = (-1) from by rw [cmpC_spec]; repeat' split <;> omega]))
  have HC03 : Hid (∀ w, Gives Tryd.prog 14 #[.agg #[.int .i64 A, .int .i64 (B), .int .i64 1], .agg #[.int .i64 A, .int .i64 (B + (1 + M)), .int .i64 1]] w (.int .i64 (-1))) := Lib.hid (fun w => (compare_any A (B) 1 A (B + (1 + M)) 1 w).cast (by rw [show cmpC (B) 1 (B + (1 + M)) 1 = (-1) from by rw [cmpC_spec]; repeat' split <;> omega]))
  have HC04 : Hid (∀ w, Gives Tryd.prog 14 #[.agg #[.int .i64 A, .int .i64 (B), .int .i64 1], .agg #[.int .i64 A, .int .i64 (0), .int .i64 4]] w (.int .i64 (-1))) := Lib.hid (fun w => (compare_any A (B) 1 A (0) 4 w).cast (by rw [show cmpC (B) 1 (0) 4 = (-1) from by rw [cmpC_spec]; repeat' split <;> omega]))
  have HC10 : Hid (∀ w, Gives Tryd.prog 14 #[.agg #[.int .i64 A, .int .i64 (B), .int .i64 2], .agg #[.int .i64 A, .int .i64 (B), .int .i64 1]] w (.int .i64 1)) := Lib.hid (fun w => (compare_any A (B) 2 A (B) 1 w).cast (by rw [show cmpC (B) 2 (B) 1 = 1 from by rw [cmpC_spec]; repeat' split <;> omega]))
  have HC11 : Hid (∀ w, Gives Tryd.prog 14 #[.agg #[.int .i64 A, .int .i64 (B), .int .i64 2], .agg #[.int .i64 A, .int .i64 (B), .int .i64 2]] w (.int .i64 0)) := Lib.hid (fun w => (compare_any A (B) 2 A (B) 2 w).cast (by rw [show cmpC (B) 2 (B) 2 = 0 from by rw [cmpC_spec]; repeat' split <;> omega]))
  have HC12 : Hid (∀ w, Gives Tryd.prog 14 #[.agg #[.int .i64 A, .int .i64 (B), .int .i64 2], .agg #[.int .i64 A, .int .i64 (B), .int .i64 3]] w (.int .i64 (-1))) := Lib.hid (fun w => (compare_any A (B) 2 A (B) 3 w).cast (by rw [show cmpC (B) 2 (B) 3 = (-1) from by rw [cmpC_spec]; repeat' split <;> omega]))
  have HC13 : Hid (∀ w, Gives Tryd.prog 14 #[.agg #[.int .i64 A, .int .i64 (B), .int .i64 2], .agg #[.int .i64 A, .int .i64 (B + (1 + M)), .int .i64 1]] w (.int .i64 (-1))) := Lib.hid (fun w => (compare_any A (B) 2 A (B + (1 + M)) 1 w).cast (by rw [show cmpC (B) 2 (B + (1 + M)) 1 = (-1) from by rw [cmpC_spec]; repeat' split <;> omega]))
  have HC14 : Hid (∀ w, Gives Tryd.prog 14 #[.agg #[.int .i64 A, .int .i64 (B), .int .i64 2], .agg #[.int .i64 A, .int .i64 (0), .int .i64 4]] w (.int .i64 (-1))) := Lib.hid (fun w => (compare_any A (B) 2 A (0) 4 w).cast (by rw [show cmpC (B) 2 (0) 4 = (-1) from by rw [cmpC_spec]; repeat' split <;> omega]))
  have HC20 : Hid (∀ w, Gives Tryd.prog 14 #[.agg #[.int .i64 A, .int .i64 (B), .int .i64 3], .agg #[.int .i64 A, .int .i64 (B), .int .i64 1]] w (.int .i64 1)) := Lib.hid (fun w => (compare_any A (B) 3 A (B) 1 w).cast (by rw [show cmpC (B) 3 (B) 1 = 1 from by rw [cmpC_spec]; repeat' split <;> omega]))
  have HC21 : Hid (∀ w, Gives Tryd.prog 14 #[.agg #[.int .i64 A, .int .i64 (B), .int .i64 3], .agg #[.int .i64 A, .int .i64 (B), .int .i64 2]] w (.int .i64 1)) := Lib.hid (fun w => (compare_any A (B) 3 A (B) 2 w).cast (by rw [show cmpC (B) 3 (B) 2 = 1 from by rw [cmpC_spec]; repeat' split <;> omega]))
  have HC22 : Hid (∀ w, Gives Tryd.prog 14 #[.agg #[.int .i64 A, .int .i64 (B), .int .i64 3], .agg #[.int .i64 A, .int .i64 (B), .int .i64 3]] w (.int .i64 0)) := Lib.hid (fun w => (compare_any A (B) 3 A (B) 3 w).cast (by rw [show cmpC (B) 3 (B) 3 = 0 from by rw [cmpC_spec]; repeat' split <;> omega]))
  have HC23 : Hid (∀ w, Gives Tryd.prog 14 #[.agg #[.int .i64 A, .int .i64 (B), .int .i64 3], .agg #[.int .i64 A, .int .i64 (B + (1 + M)), .int .i64 1]] w (.int .i64 (-1))) := Lib.hid (fun w => (compare_any A (B) 3 A (B + (1 + M)) 1 w).cast (by rw [show cmpC (B) 3 (B + (1 + M)) 1 = (-1) from by rw [cmpC_spec]; repeat' split <;> omega]))
  have HC24 : Hid (∀ w, Gives Tryd.prog 14 #[.agg #[.int .i64 A, .int .i64 (B), .int .i64 3], .agg #[.int .i64 A, .int .i64 (0), .int .i64 4]] w (.int .i64 (-1))) := Lib.hid (fun w => (compare_any A (B) 3 A (0) 4 w).cast (by rw [show cmpC (B) 3 (0) 4 = (-1) from by rw [cmpC_spec]; repeat' split <;> omega]))
  have HC30 : Hid (∀ w, Gives Tryd.prog 14 #[.agg #[.int .i64 A, .int .i64 (B + (1 + M)), .int .i64 1], .agg #[.int .i64 A, .int .i64 (B), .int .i64 1]] w (.int .i64 1)) := Lib.hid (fun w => (compare_any A (B + (1 + M)) 1 A (B) 1 w).cast (by rw [show cmpC (B + (1 + M)) 1 (B) 1 = 1 from by rw [cmpC_spec]; repeat' split <;> omega]))
  have HC31 : Hid (∀ w, Gives Tryd.prog 14 #[.agg #[.int .i64 A, .int .i64 (B + (1 + M)), .int .i64 1], .agg #[.int .i64 A, .int .i64 (B), .int .i64 2]] w (.int .i64 1)) := Lib.hid (fun w => (compare_any A (B + (1 + M)) 1 A (B) 2 w).cast (by rw [show cmpC (B + (1 + M)) 1 (B) 2 = 1 from by rw [cmpC_spec]; repeat' split <;> omega]))
  have HC32 : Hid (∀ w, Gives Tryd.prog 14 #[.agg #[.int .i64 A, .int .i64 (B + (1 + M)), .int .i64 1], .agg #[.int .i64 A, .int .i64 (B), .int .i64 3]] w (.int .i64 1)) := Lib.hid (fun w => (compare_any A (B + (1 + M)) 1 A (B) 3 w).cast (by rw [show cmpC (B + (1 + M)) 1 (B) 3 = 1 from by rw [cmpC_spec]; repeat' split <;> omega]))
  have HC33 : Hid (∀ w, Gives Tryd.prog 14 #[.agg #[.int .i64 A, .int .i64 (B + (1 + M)), .int .i64 1], .agg #[.int .i64 A, .int .i64 (B + (1 + M)), .int .i64 1]] w (.int .i64 0)) := Lib.hid (fun w => (compare_any A (B + (1 + M)) 1 A (B + (1 + M)) 1 w).cast (by rw [show cmpC (B + (1 + M)) 1 (B + (1 + M)) 1 = 0 from by rw [cmpC_spec]; repeat' split <;> omega]))
  have HC34 : Hid (∀ w, Gives Tryd.prog 14 #[.agg #[.int .i64 A, .int .i64 (B + (1 + M)), .int .i64 1], .agg #[.int .i64 A, .int .i64 (0), .int .i64 4]] w (.int .i64 (-1))) := Lib.hid (fun w => (compare_any A (B + (1 + M)) 1 A (0) 4 w).cast (by rw [show cmpC (B + (1 + M)) 1 (0) 4 = (-1) from by rw [cmpC_spec]; repeat' split <;> omega]))
  have HC40 : Hid (∀ w, Gives Tryd.prog 14 #[.agg #[.int .i64 A, .int .i64 (0), .int .i64 4], .agg #[.int .i64 A, .int .i64 (B), .int .i64 1]] w (.int .i64 1)) := Lib.hid (fun w => (compare_any A (0) 4 A (B) 1 w).cast (by rw [show cmpC (0) 4 (B) 1 = 1 from by rw [cmpC_spec]; repeat' split <;> omega]))
  have HC41 : Hid (∀ w, Gives Tryd.prog 14 #[.agg #[.int .i64 A, .int .i64 (0), .int .i64 4], .agg #[.int .i64 A, .int .i64 (B), .int .i64 2]] w (.int .i64 1)) := Lib.hid (fun w => (compare_any A (0) 4 A (B) 2 w).cast (by rw [show cmpC (0) 4 (B) 2 = 1 from by rw [cmpC_spec]; repeat' split <;> omega]))
  have HC42 : Hid (∀ w, Gives Tryd.prog 14 #[.agg #[.int .i64 A, .int .i64 (0), .int .i64 4], .agg #[.int .i64 A, .int .i64 (B), .int .i64 3]] w (.int .i64 1)) := Lib.hid (fun w => (compare_any A (0) 4 A (B) 3 w).cast (by rw [show cmpC (0) 4 (B) 3 = 1 from by rw [cmpC_spec]; repeat' split <;> omega]))
  have HC43 : Hid (∀ w, Gives Tryd.prog 14 #[.agg #[.int .i64 A, .int .i64 (0), .int .i64 4], .agg #[.int .i64 A, .int .i64 (B + (1 + M)), .int .i64 1]] w (.int .i64 1)) := Lib.hid (fun w => (compare_any A (0) 4 A (B + (1 + M)) 1 w).cast (by rw [show cmpC (0) 4 (B + (1 + M)) 1 = 1 from by rw [cmpC_spec]; repeat' split <;> omega]))
  have HC44 : Hid (∀ w, Gives Tryd.prog 14 #[.agg #[.int .i64 A, .int .i64 (0), .int .i64 4], .agg #[.int .i64 A, .int .i64 (0), .int .i64 4]] w (.int .i64 0)) := Lib.hid (fun w => (compare_any A (0) 4 A (0) 4 w).cast (by rw [show cmpC (0) 4 (0) 4 = 0 from by rw [cmpC_spec]; repeat' split <;> omega]))
  clear ht
  go_enter Tryd.func7, Tryd.ntmps7
  go_wp2
  clear eA eB eM
  go_loopw [43, 8, 9, 10, 48] (fun v43 _ _ _ _ wr => ∃ (a : Int) (x : Later (w.alloc (Obj.cells #[.int .i64 A, .int .i64 (B), .int .i64 1, .int .i64 A, .int .i64 (B), .int .i64 2, .int .i64 A, .int .i64 (B), .int .i64 3, .int .i64 A, .int .i64 (B + (1 + M)), .int .i64 1, .int .i64 A, .int .i64 (0), .int .i64 4] 23))), 0 ≤ a ∧ a ≤ 5 ∧ v43 = .int .i64 a ∧ wr = x.w) (fun v43 _ _ _ _ _ => (5 - intOf v43).toNat)
  case atStart => exact ⟨0, ⟨_, Below.refl _ _⟩, by omega, by omega, rfl, rfl⟩
  case round =>
    obtain ⟨a, x, ha0, ha5, rfl, rfl⟩ := hrel
    by_cases hlt : a < 5
    · go_wp2
      go_loopw [48] (fun v48 wr => ∃ (b : Int) (y : Later (w.alloc (Obj.cells #[.int .i64 A, .int .i64 (B), .int .i64 1, .int .i64 A, .int .i64 (B), .int .i64 2, .int .i64 A, .int .i64 (B), .int .i64 3, .int .i64 A, .int .i64 (B + (1 + M)), .int .i64 1, .int .i64 A, .int .i64 (0), .int .i64 4] 23))), 0 ≤ b ∧ b ≤ 5 ∧ v48 = .int .i64 b ∧ wr = y.w) (fun v48 _ => (5 - intOf v48).toNat)
      case atStart => exact ⟨0, x, by omega, by omega, rfl, rfl⟩
      case round =>
        obtain ⟨b, y, hb0, hb5, rfl, rfl⟩ := hrel
        by_cases hlb : b < 5
        · rcases (show a = 0 ∨ a = 1 ∨ a = 2 ∨ a = 3 ∨ a = 4 from by omega) with rfl | rfl | rfl | rfl | rfl <;> rcases (show b = 0 ∨ b = 1 ∨ b = 2 ∨ b = 3 ∨ b = 4 from by omega) with rfl | rfl | rfl | rfl | rfl
          all_goals
            clear hlb hlt ha0 ha5 hb0 hb5
            go_wp2
            refine wp_region_later_on (by kernel_rfl) (by kernel_rfl) ?_
            repeat (go_big_quiet_step (first | (go_at_call 12; with_reducible exact later_of (HM0.out _)) | (go_at_call 12; with_reducible exact later_of (HM1.out _)) | (go_at_call 12; with_reducible exact later_of (HM2.out _)) | (go_at_call 12; with_reducible exact later_of (HM3.out _)) | (go_at_call 12; with_reducible exact later_of (HM4.out _)) | (go_at_call 14; with_reducible exact later_of (HC00.out _)) | (go_at_call 14; with_reducible exact later_of (HC01.out _)) | (go_at_call 14; with_reducible exact later_of (HC02.out _)) | (go_at_call 14; with_reducible exact later_of (HC03.out _)) | (go_at_call 14; with_reducible exact later_of (HC04.out _)) | (go_at_call 14; with_reducible exact later_of (HC10.out _)) | (go_at_call 14; with_reducible exact later_of (HC11.out _)) | (go_at_call 14; with_reducible exact later_of (HC12.out _)) | (go_at_call 14; with_reducible exact later_of (HC13.out _)) | (go_at_call 14; with_reducible exact later_of (HC14.out _)) | (go_at_call 14; with_reducible exact later_of (HC20.out _)) | (go_at_call 14; with_reducible exact later_of (HC21.out _)) | (go_at_call 14; with_reducible exact later_of (HC22.out _)) | (go_at_call 14; with_reducible exact later_of (HC23.out _)) | (go_at_call 14; with_reducible exact later_of (HC24.out _)) | (go_at_call 14; with_reducible exact later_of (HC30.out _)) | (go_at_call 14; with_reducible exact later_of (HC31.out _)) | (go_at_call 14; with_reducible exact later_of (HC32.out _)) | (go_at_call 14; with_reducible exact later_of (HC33.out _)) | (go_at_call 14; with_reducible exact later_of (HC34.out _)) | (go_at_call 14; with_reducible exact later_of (HC40.out _)) | (go_at_call 14; with_reducible exact later_of (HC41.out _)) | (go_at_call 14; with_reducible exact later_of (HC42.out _)) | (go_at_call 14; with_reducible exact later_of (HC43.out _)) | (go_at_call 14; with_reducible exact later_of (HC44.out _))))
            refine wpQuiet_nil ?_
            rintro _ ⟨x9, rfl⟩
            go_wp2
            go_roundw
            case rel => exact ⟨_, x9, by omega, by omega, rfl, rfl⟩
            case measure => simp [intOf]
        · go_wp2
          go_roundw
          case rel => exact ⟨_, y, by omega, by omega, rfl, rfl⟩
          case measure => simp [intOf]; omega
    · go_wp2_with (go_at_call 18; (with_reducible refine Gives.on (HA.out _ (HT.out.later (by repeat (first | exact ext_refl _ | refine ext_alloc ?_ _ | refine ext_later ?_ _ | refine ext_drew ?_ | refine ext_drewN ?_ _ | assumption)))) ?_); intro x9)
      all_goals (go_ret; exact ⟨by first | rfl | (simp; omega), Later.ex (by repeat (first | exact ext_refl _ | refine ext_alloc ?_ _ | refine ext_later ?_ _ | refine ext_drew ?_ | refine ext_drewN ?_ _ | assumption))⟩)
end Go.Proofs.YtbdhnmjmbbahhaaDoor
