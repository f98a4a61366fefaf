/- The louder claim, and the claims that every program must know: what each function gives. -/
import Derived.Test.YtbdhnmjmbbahhaaDoorHealth5
namespace Go.Proofs.YtbdhnmjmbbahhaaDoor
open Go Go.RowKit

set_option maxHeartbeats 400000 in
theorem louder_b (n1 i1 h1 n2 i2 h2 : Int) (hc : 0 < cmpC i2 h2 i1 h1) (w : World) : Gives Tryd.prog 15 #[.agg #[.int .i64 n1, .int .i64 i1, .int .i64 h1], .agg #[.int .i64 n2, .int .i64 i2, .int .i64 h2]] w (.agg #[.int .i64 n2, .int .i64 i2, .int .i64 h2]) := by
  unfold Gives
  have HC : Hid (∀ w, Gives Tryd.prog 14 #[.agg #[.int .i64 n2, .int .i64 i2, .int .i64 h2], .agg #[.int .i64 n1, .int .i64 i1, .int .i64 h1]] w (.int .i64 (cmpC i2 h2 i1 h1))) := Lib.hid (fun w => compare_any n2 i2 h2 n1 i1 h1 w)
  go_enter Tryd.func15, Tryd.ntmps15
  go_wp2_with (go_at_call 14; (first | (with_reducible refine Gives.on (HC.out _) ?_) | (refine Gives.mono' (HC.out _) ?_)); intro x)
  refine bodyPost_ret (v := .agg #[.int .i64 n2, .int .i64 i2, .int .i64 h2]) ?_ rfl ⟨rfl, Later.ex ?_⟩
  · simp [results, Tryd.results15, go_sem]
  · repeat (first | exact ext_refl _ | refine ext_alloc ?_ _ | refine ext_later ?_ _ | refine ext_drew ?_ | refine ext_drewN ?_ _ | refine ext_setCell ?_ _ _ (by dsimp only; omega))
set_option maxHeartbeats 400000 in
theorem louder_a (n1 i1 h1 n2 i2 h2 : Int) (hc : cmpC i2 h2 i1 h1 ≤ 0) (w : World) : Gives Tryd.prog 15 #[.agg #[.int .i64 n1, .int .i64 i1, .int .i64 h1], .agg #[.int .i64 n2, .int .i64 i2, .int .i64 h2]] w (.agg #[.int .i64 n1, .int .i64 i1, .int .i64 h1]) := by
  unfold Gives
  have HC : Hid (∀ w, Gives Tryd.prog 14 #[.agg #[.int .i64 n2, .int .i64 i2, .int .i64 h2], .agg #[.int .i64 n1, .int .i64 i1, .int .i64 h1]] w (.int .i64 (cmpC i2 h2 i1 h1))) := Lib.hid (fun w => compare_any n2 i2 h2 n1 i1 h1 w)
  go_enter Tryd.func15, Tryd.ntmps15
  go_wp2_with (go_at_call 14; (first | (with_reducible refine Gives.on (HC.out _) ?_) | (refine Gives.mono' (HC.out _) ?_)); intro x)
  refine bodyPost_ret (v := .agg #[.int .i64 n1, .int .i64 i1, .int .i64 h1]) ?_ rfl ⟨rfl, Later.ex ?_⟩
  · simp [results, Tryd.results15, go_sem]
  · repeat (first | exact ext_refl _ | refine ext_alloc ?_ _ | refine ext_later ?_ _ | refine ext_drew ?_ | refine ext_drewN ?_ _ | refine ext_setCell ?_ _ _ (by dsimp only; omega))

theorem awake_text : textS 3 2 2 = ⟨#[51, 58, 115, 117, 115, 112, 101, 99, 116, 64, 50]⟩ := by
  have h2 : Lib.itoa 2 = [50] := by kernel_rfl
  have h3 : Lib.itoa 3 = [51] := by kernel_rfl
  have hm : mayB 3 2 2 = true := by decide
  apply ByteArray.ext
  simp [textS, saidS, itoaS, hm, h2, h3, ByteArray.data_append]

set_option maxHeartbeats 400000 in
theorem awake_any (w : World) (ht : Tab w) : Gives Tryd.prog 18 #[] w (.bool true) := by
  unfold Gives
  have HT := Lib.hid ht
  clear ht
  have HR : Hid (∀ w, Gives Tryd.prog 9 #[.int .i64 3, .int .i64 2, .agg #[.int .i64 3, .int .i64 2, .int .i64 2]] w (.tuple #[.int .i64 3, .int .i64 0])) := Lib.hid (fun w => (refute_any 3 2 3 2 2 w).cast (by simp [refN, refE]))
  have HC : Hid (∀ w, Gives Tryd.prog 14 #[.agg #[.int .i64 3, .int .i64 2, .int .i64 2], .agg #[.int .i64 3, .int .i64 2, .int .i64 1]] w (.int .i64 1)) := Lib.hid (fun w => (compare_any 3 2 2 3 2 1 w).cast (by simp [cmpC, orI, Lib.compareInt]))
  have HX : Hid (∀ w, Tab w → Gives Tryd.prog 16 #[.agg #[.int .i64 3, .int .i64 2, .int .i64 2]] w (.string ⟨#[51, 58, 115, 117, 115, 112, 101, 99, 116, 64, 50]⟩)) := Lib.hid (fun w ht => (text_any 3 2 2 w ht).cast (by rw [show textS 3 2 2 = _ from awake_text]))
  go_enter Tryd.func18, Tryd.ntmps18
  go_wp2_with (first | (go_at_call 9; (first | (with_reducible refine Gives.on (HR.out _) ?_) | (refine Gives.mono' (HR.out _) ?_)); intro x) | (go_at_call 14; (first | (with_reducible refine Gives.on (HC.out _) ?_) | (refine Gives.mono' (HC.out _) ?_)); intro x) | (go_at_call 16; (first | (with_reducible refine Gives.on (HX.out _ (HT.out.later (by repeat (first | exact ext_refl _ | refine ext_alloc ?_ _ | refine ext_later ?_ _ | refine ext_drew ?_ | refine ext_drewN ?_ _)))) ?_) | (refine Gives.mono' (HX.out _ (HT.out.later (by repeat (first | exact ext_refl _ | refine ext_alloc ?_ _ | refine ext_later ?_ _ | refine ext_drew ?_ | refine ext_drewN ?_ _)))) ?_)); intro x))
  all_goals (go_ret; exact ⟨rfl, Later.ex (by repeat (first | exact ext_refl _ | refine ext_alloc ?_ _ | refine ext_later ?_ _ | refine ext_drew ?_ | refine ext_drewN ?_ _))⟩)
end Go.Proofs.YtbdhnmjmbbahhaaDoor
