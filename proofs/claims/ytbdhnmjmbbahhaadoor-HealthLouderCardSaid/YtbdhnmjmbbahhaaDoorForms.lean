/- HealthForms's walk: on any claims, any node, any incarnation the answers are the reference's. -/
import Derived.Test.YtbdhnmjmbbahhaaDoorHealth6
namespace Go.Proofs.YtbdhnmjmbbahhaaDoor
open Go Go.RowKit

/-- A block's cells: a claim lies there. -/
structure ClaimAt (w : World) (b : Nat) (n i h : Int) : Prop where
  c0 : w.cell? ⟨b, 0, none⟩ = some (.int .i64 n)
  c1 : w.cell? ⟨b, 1, none⟩ = some (.int .i64 i)
  c2 : w.cell? ⟨b, 2, none⟩ = some (.int .i64 h)
  lt : b < w.heap.size
  f0 : w.frozen? ⟨b, 0, none⟩ = false
  f1 : w.frozen? ⟨b, 1, none⟩ = false
  f2 : w.frozen? ⟨b, 2, none⟩ = false

/-- A call behind which the world is a letter, of which what the caller wants is known. -/
theorem Gives.cut {P : Program} {f : FuncId} {args : Array Value} {W : World} {v : Value} (F : World → Prop) (h : Gives P f args W v) (hF : ∀ x : Later W, F x.w) {Q : Ending → World → Prop} (hQ : ∀ W2, F W2 → Q (.returned v) W2) : Calls P f args W Q :=
  Calls.mono h fun _ _ ⟨he, x, hx⟩ => by rw [he, hx]; exact hQ _ (hF x)
theorem Gives.cutOn {P : Program} {f : FuncId} {args : Array Value} {W : World} {y : Later W} {v : Value} (F : World → Prop) (h : Gives P f args y.w v) (hF : ∀ x : Later W, F x.w) {Q : Ending → World → Prop} (hQ : ∀ W2, F W2 → Q (.returned v) W2) : Calls P f args y.w Q :=
  h.on fun x => hQ _ (hF x)

set_option maxHeartbeats 4000000 in
set_option maxRecDepth 100000 in
theorem forms_b (n1 i1 h1 n2 i2 h2 self inc : Int) (hc : 0 < cmpC i2 h2 i1 h1) (w : World) (ht : Tab w) : Gives Tryd.prog 3 #[.agg #[.int .i64 n1, .int .i64 i1, .int .i64 h1], .agg #[.int .i64 n2, .int .i64 i2, .int .i64 h2], .int .i64 self, .int .i64 inc] w (.bool true) := by
  unfold Gives
  have HT := Lib.hid ht
  obtain ⟨rn, ern⟩ : ∃ rn, refN self inc n1 i1 h1 = rn := ⟨_, rfl⟩
  obtain ⟨re, ere⟩ : ∃ re, refE self inc n1 i1 h1 = re := ⟨_, rfl⟩
  obtain ⟨x, ex⟩ : ∃ x, cmpC i1 h1 i2 h2 = x := ⟨_, rfl⟩
  obtain ⟨y, ey⟩ : ∃ y, cmpC i2 h2 i1 h1 = y := ⟨_, rfl⟩
  obtain ⟨m, em⟩ : ∃ m, mayB n1 i1 h1 = m := ⟨_, rfl⟩
  obtain ⟨t, et⟩ : ∃ t, textS n1 i1 h1 = t := ⟨_, rfl⟩
  have HR : Hid (∀ w, Gives Tryd.prog 9 #[.int .i64 self, .int .i64 inc, .agg #[.int .i64 n1, .int .i64 i1, .int .i64 h1]] w (.tuple #[.int .i64 rn, .int .i64 re])) := Lib.hid (fun w => (refute_any self inc n1 i1 h1 w).cast (by rw [ern, ere]))
  have HS : Hid (∀ w, Gives Tryd.prog 10 #[.int .i64 self, .int .i64 inc, .agg #[.int .i64 n1, .int .i64 i1, .int .i64 h1]] w (.tuple #[.int .i64 rn, .int .i64 re])) := Lib.hid (fun w => (refRefute_any self inc n1 i1 h1 w).cast (by rw [ern, ere]))
  have HY : Hid (∀ w, Gives Tryd.prog 11 #[.agg #[.int .i64 n2, .int .i64 i2, .int .i64 h2], .agg #[.int .i64 n1, .int .i64 i1, .int .i64 h1]] w (.int .i64 y)) := Lib.hid (fun w => (refCompare_any n2 i2 h2 n1 i1 h1 w).cast (by rw [ey]))
  have HX : Hid (∀ w, Gives Tryd.prog 14 #[.agg #[.int .i64 n1, .int .i64 i1, .int .i64 h1], .agg #[.int .i64 n2, .int .i64 i2, .int .i64 h2]] w (.int .i64 x)) := Lib.hid (fun w => (compare_any n1 i1 h1 n2 i2 h2 w).cast (by rw [ex]))
  have HZ : Hid (∀ w, Gives Tryd.prog 11 #[.agg #[.int .i64 n1, .int .i64 i1, .int .i64 h1], .agg #[.int .i64 n2, .int .i64 i2, .int .i64 h2]] w (.int .i64 x)) := Lib.hid (fun w => (refCompare_any n1 i1 h1 n2 i2 h2 w).cast (by rw [ex]))
  have HM : Hid (∀ w, Gives Tryd.prog 12 #[.agg #[.int .i64 n1, .int .i64 i1, .int .i64 h1]] w (.bool m)) := Lib.hid (fun w => (may_any n1 i1 h1 w).cast (by rw [em]))
  have HN : Hid (∀ w, Gives Tryd.prog 13 #[.agg #[.int .i64 n1, .int .i64 i1, .int .i64 h1]] w (.bool m)) := Lib.hid (fun w => (refMay_any n1 i1 h1 w).cast (by rw [em]))
  have HL : Hid (∀ w, Gives Tryd.prog 15 #[.agg #[.int .i64 n1, .int .i64 i1, .int .i64 h1], .agg #[.int .i64 n2, .int .i64 i2, .int .i64 h2]] w (.agg #[.int .i64 n2, .int .i64 i2, .int .i64 h2])) := Lib.hid (fun w => louder_b n1 i1 h1 n2 i2 h2 hc w)
  have HU : Hid (∀ w, Tab w → Gives Tryd.prog 16 #[.agg #[.int .i64 n1, .int .i64 i1, .int .i64 h1]] w (.string t)) := Lib.hid (fun w ht => (text_any n1 i1 h1 w ht).cast (by rw [et]))
  have HV : Hid (∀ w, Tab w → Gives Tryd.prog 17 #[.agg #[.int .i64 n1, .int .i64 i1, .int .i64 h1]] w (.string t)) := Lib.hid (fun w ht => (refText_any n1 i1 h1 w ht).cast (by rw [et]))
  have HA : Hid (∀ w, Tab w → Gives Tryd.prog 18 #[] w (.bool true)) := Lib.hid awake_any
  have hy : 0 < y := by rw [← ey]; exact hc
  clear ern ere ex ey em et ht hc
  go_enter Tryd.func3, Tryd.ntmps3
  go_wp2_with fail
  refine Gives.mono' (HR.out _) ?_
  intro x1
  go_wp2_with fail
  refine Gives.cutOn (fun W1 => ClaimAt W1 w.heap.size n1 i1 h1 ∧ ClaimAt W1 (w.heap.size + 1) n2 i2 h2 ∧ Below w.heap.size w W1) (HS.out _) ?hF ?_
  case hF =>
    intro x
    exact ⟨⟨by simp [go_sem], by simp [go_sem], by simp [go_sem], by simp [go_sem], by simp [go_sem], by simp [go_sem], by simp [go_sem]⟩, ⟨by simp [go_sem], by simp [go_sem], by simp [go_sem], by simp [go_sem], by simp [go_sem], by simp [go_sem], by simp [go_sem]⟩, (by repeat (first | exact ext_refl _ | refine ext_alloc ?_ _ | refine ext_later ?_ _ | refine ext_drew ?_ | refine ext_drewN ?_ _ | refine ext_setCell ?_ _ _ (by first | assumption | (dsimp only; omega)) | assumption))⟩
  rintro W1 ⟨⟨a0, a1, a2, a3, a5, a6, a7⟩, ⟨b0, b1, b2, b3, b5, b6, b7⟩, hb1⟩
  have hle : w.heap.size ≤ W1.heap.size := hb1.size
  have a4 : w.heap.size ≠ W1.heap.size := by omega
  have b4 : w.heap.size + 1 ≠ W1.heap.size := by omega
  go_wp2_with fail
  refine Gives.cut (fun W2 => ClaimAt W2 w.heap.size n1 i1 h1 ∧ ClaimAt W2 (w.heap.size + 1) n2 i2 h2 ∧ ClaimAt W2 W1.heap.size n1 i1 h1 ∧ Below w.heap.size w W2) (HY.out _) ?hG ?_
  case hG =>
    intro x
    exact ⟨⟨by simp [go_sem, *], by simp [go_sem, *], by simp [go_sem, *], by simp [go_sem, *], by simp [go_sem, *], by simp [go_sem, *], by simp [go_sem, *]⟩, ⟨by simp [go_sem, *], by simp [go_sem, *], by simp [go_sem, *], by simp [go_sem, *], by simp [go_sem, *], by simp [go_sem, *], by simp [go_sem, *]⟩, ⟨by simp [go_sem, *], by simp [go_sem, *], by simp [go_sem, *], by simp [go_sem, *], by simp [go_sem, *], by simp [go_sem, *], by simp [go_sem, *]⟩, (by repeat (first | exact ext_refl _ | refine ext_alloc ?_ _ | refine ext_later ?_ _ | refine ext_drew ?_ | refine ext_drewN ?_ _ | refine ext_setCell ?_ _ _ (by first | assumption | (dsimp only; omega)) | assumption))⟩
  clear a0 a1 a2 b0 b1 b2 a3 b3 a5 a6 a7 b5 b6 b7 x1 hb1
  rintro W2 ⟨⟨a0, a1, a2, a3, a5, a6, a7⟩, ⟨b0, b1, b2, b3, b5, b6, b7⟩, ⟨d0, d1, d2, d3, d5, d6, d7⟩, hb⟩
  go_wp2_with fail
  refine wp_region_later (by kernel_rfl) (by kernel_rfl) ?_
  repeat (go_big_quiet_step (first | (go_at_call 12; with_reducible exact later_of (HM.out _)) | (go_at_call 13; with_reducible exact later_of (HN.out _)) | (go_at_call 14; with_reducible exact later_of (HX.out _)) | (go_at_call 11; with_reducible exact later_of (HZ.out _)) | (go_at_call 15; with_reducible exact later_of (HL.out _)) | (go_at_call 16; with_reducible exact later_of (HU.out _ (HT.out.later (by repeat (first | exact ext_refl _ | refine ext_alloc ?_ _ | refine ext_later ?_ _ | refine ext_drew ?_ | refine ext_drewN ?_ _ | refine ext_setCell ?_ _ _ (by first | assumption | (dsimp only; omega)) | assumption))))) | (go_at_call 17; with_reducible exact later_of (HV.out _ (HT.out.later (by repeat (first | exact ext_refl _ | refine ext_alloc ?_ _ | refine ext_later ?_ _ | refine ext_drew ?_ | refine ext_drewN ?_ _ | refine ext_setCell ?_ _ _ (by first | assumption | (dsimp only; omega)) | assumption))))) | (go_at_call 18; with_reducible exact later_of (HA.out _ (HT.out.later (by repeat (first | exact ext_refl _ | refine ext_alloc ?_ _ | refine ext_later ?_ _ | refine ext_drew ?_ | refine ext_drewN ?_ _ | refine ext_setCell ?_ _ _ (by first | assumption | (dsimp only; omega)) | assumption)))))))
  refine wpQuiet_nil ?_
  rintro _ ⟨x9, rfl⟩
  go_wp2
  all_goals (go_ret; exact ⟨by first | rfl | (simp; omega), Later.ex (by repeat (first | exact ext_refl _ | refine ext_alloc ?_ _ | refine ext_later ?_ _ | refine ext_drew ?_ | refine ext_drewN ?_ _ | refine ext_setCell ?_ _ _ (by first | assumption | (dsimp only; omega)) | assumption))⟩)

set_option maxHeartbeats 4000000 in
set_option maxRecDepth 100000 in
theorem forms_a (n1 i1 h1 n2 i2 h2 self inc : Int) (hc : cmpC i2 h2 i1 h1 ≤ 0) (w : World) (ht : Tab w) : Gives Tryd.prog 3 #[.agg #[.int .i64 n1, .int .i64 i1, .int .i64 h1], .agg #[.int .i64 n2, .int .i64 i2, .int .i64 h2], .int .i64 self, .int .i64 inc] w (.bool true) := by
  unfold Gives
  have HT := Lib.hid ht
  obtain ⟨rn, ern⟩ : ∃ rn, refN self inc n1 i1 h1 = rn := ⟨_, rfl⟩
  obtain ⟨re, ere⟩ : ∃ re, refE self inc n1 i1 h1 = re := ⟨_, rfl⟩
  obtain ⟨x, ex⟩ : ∃ x, cmpC i1 h1 i2 h2 = x := ⟨_, rfl⟩
  obtain ⟨y, ey⟩ : ∃ y, cmpC i2 h2 i1 h1 = y := ⟨_, rfl⟩
  obtain ⟨m, em⟩ : ∃ m, mayB n1 i1 h1 = m := ⟨_, rfl⟩
  obtain ⟨t, et⟩ : ∃ t, textS n1 i1 h1 = t := ⟨_, rfl⟩
  have HR : Hid (∀ w, Gives Tryd.prog 9 #[.int .i64 self, .int .i64 inc, .agg #[.int .i64 n1, .int .i64 i1, .int .i64 h1]] w (.tuple #[.int .i64 rn, .int .i64 re])) := Lib.hid (fun w => (refute_any self inc n1 i1 h1 w).cast (by rw [ern, ere]))
  have HS : Hid (∀ w, Gives Tryd.prog 10 #[.int .i64 self, .int .i64 inc, .agg #[.int .i64 n1, .int .i64 i1, .int .i64 h1]] w (.tuple #[.int .i64 rn, .int .i64 re])) := Lib.hid (fun w => (refRefute_any self inc n1 i1 h1 w).cast (by rw [ern, ere]))
  have HY : Hid (∀ w, Gives Tryd.prog 11 #[.agg #[.int .i64 n2, .int .i64 i2, .int .i64 h2], .agg #[.int .i64 n1, .int .i64 i1, .int .i64 h1]] w (.int .i64 y)) := Lib.hid (fun w => (refCompare_any n2 i2 h2 n1 i1 h1 w).cast (by rw [ey]))
  have HX : Hid (∀ w, Gives Tryd.prog 14 #[.agg #[.int .i64 n1, .int .i64 i1, .int .i64 h1], .agg #[.int .i64 n2, .int .i64 i2, .int .i64 h2]] w (.int .i64 x)) := Lib.hid (fun w => (compare_any n1 i1 h1 n2 i2 h2 w).cast (by rw [ex]))
  have HZ : Hid (∀ w, Gives Tryd.prog 11 #[.agg #[.int .i64 n1, .int .i64 i1, .int .i64 h1], .agg #[.int .i64 n2, .int .i64 i2, .int .i64 h2]] w (.int .i64 x)) := Lib.hid (fun w => (refCompare_any n1 i1 h1 n2 i2 h2 w).cast (by rw [ex]))
  have HM : Hid (∀ w, Gives Tryd.prog 12 #[.agg #[.int .i64 n1, .int .i64 i1, .int .i64 h1]] w (.bool m)) := Lib.hid (fun w => (may_any n1 i1 h1 w).cast (by rw [em]))
  have HN : Hid (∀ w, Gives Tryd.prog 13 #[.agg #[.int .i64 n1, .int .i64 i1, .int .i64 h1]] w (.bool m)) := Lib.hid (fun w => (refMay_any n1 i1 h1 w).cast (by rw [em]))
  have HL : Hid (∀ w, Gives Tryd.prog 15 #[.agg #[.int .i64 n1, .int .i64 i1, .int .i64 h1], .agg #[.int .i64 n2, .int .i64 i2, .int .i64 h2]] w (.agg #[.int .i64 n1, .int .i64 i1, .int .i64 h1])) := Lib.hid (fun w => louder_a n1 i1 h1 n2 i2 h2 hc w)
  have HU : Hid (∀ w, Tab w → Gives Tryd.prog 16 #[.agg #[.int .i64 n1, .int .i64 i1, .int .i64 h1]] w (.string t)) := Lib.hid (fun w ht => (text_any n1 i1 h1 w ht).cast (by rw [et]))
  have HV : Hid (∀ w, Tab w → Gives Tryd.prog 17 #[.agg #[.int .i64 n1, .int .i64 i1, .int .i64 h1]] w (.string t)) := Lib.hid (fun w ht => (refText_any n1 i1 h1 w ht).cast (by rw [et]))
  have HA : Hid (∀ w, Tab w → Gives Tryd.prog 18 #[] w (.bool true)) := Lib.hid awake_any
  have hy : y ≤ 0 := by rw [← ey]; exact hc
  clear ern ere ex ey em et ht hc
  go_enter Tryd.func3, Tryd.ntmps3
  go_wp2_with fail
  refine Gives.mono' (HR.out _) ?_
  intro x1
  go_wp2_with fail
  refine Gives.cutOn (fun W1 => ClaimAt W1 w.heap.size n1 i1 h1 ∧ ClaimAt W1 (w.heap.size + 1) n2 i2 h2 ∧ Below w.heap.size w W1) (HS.out _) ?hF ?_
  case hF =>
    intro x
    exact ⟨⟨by simp [go_sem], by simp [go_sem], by simp [go_sem], by simp [go_sem], by simp [go_sem], by simp [go_sem], by simp [go_sem]⟩, ⟨by simp [go_sem], by simp [go_sem], by simp [go_sem], by simp [go_sem], by simp [go_sem], by simp [go_sem], by simp [go_sem]⟩, (by repeat (first | exact ext_refl _ | refine ext_alloc ?_ _ | refine ext_later ?_ _ | refine ext_drew ?_ | refine ext_drewN ?_ _ | refine ext_setCell ?_ _ _ (by first | assumption | (dsimp only; omega)) | assumption))⟩
  rintro W1 ⟨⟨a0, a1, a2, a3, a5, a6, a7⟩, ⟨b0, b1, b2, b3, b5, b6, b7⟩, hb1⟩
  have hle : w.heap.size ≤ W1.heap.size := hb1.size
  have a4 : w.heap.size ≠ W1.heap.size := by omega
  have b4 : w.heap.size + 1 ≠ W1.heap.size := by omega
  go_wp2_with fail
  refine Gives.cut (fun W2 => ClaimAt W2 w.heap.size n1 i1 h1 ∧ ClaimAt W2 (w.heap.size + 1) n2 i2 h2 ∧ ClaimAt W2 W1.heap.size n1 i1 h1 ∧ Below w.heap.size w W2) (HY.out _) ?hG ?_
  case hG =>
    intro x
    exact ⟨⟨by simp [go_sem, *], by simp [go_sem, *], by simp [go_sem, *], by simp [go_sem, *], by simp [go_sem, *], by simp [go_sem, *], by simp [go_sem, *]⟩, ⟨by simp [go_sem, *], by simp [go_sem, *], by simp [go_sem, *], by simp [go_sem, *], by simp [go_sem, *], by simp [go_sem, *], by simp [go_sem, *]⟩, ⟨by simp [go_sem, *], by simp [go_sem, *], by simp [go_sem, *], by simp [go_sem, *], by simp [go_sem, *], by simp [go_sem, *], by simp [go_sem, *]⟩, (by repeat (first | exact ext_refl _ | refine ext_alloc ?_ _ | refine ext_later ?_ _ | refine ext_drew ?_ | refine ext_drewN ?_ _ | refine ext_setCell ?_ _ _ (by first | assumption | (dsimp only; omega)) | assumption))⟩
  clear a0 a1 a2 b0 b1 b2 a3 b3 a5 a6 a7 b5 b6 b7 x1 hb1
  rintro W2 ⟨⟨a0, a1, a2, a3, a5, a6, a7⟩, ⟨b0, b1, b2, b3, b5, b6, b7⟩, ⟨d0, d1, d2, d3, d5, d6, d7⟩, hb⟩
  go_wp2_with fail
  refine wp_region_later (by kernel_rfl) (by kernel_rfl) ?_
  repeat (go_big_quiet_step (first | (go_at_call 12; with_reducible exact later_of (HM.out _)) | (go_at_call 13; with_reducible exact later_of (HN.out _)) | (go_at_call 14; with_reducible exact later_of (HX.out _)) | (go_at_call 11; with_reducible exact later_of (HZ.out _)) | (go_at_call 15; with_reducible exact later_of (HL.out _)) | (go_at_call 16; with_reducible exact later_of (HU.out _ (HT.out.later (by repeat (first | exact ext_refl _ | refine ext_alloc ?_ _ | refine ext_later ?_ _ | refine ext_drew ?_ | refine ext_drewN ?_ _ | refine ext_setCell ?_ _ _ (by first | assumption | (dsimp only; omega)) | assumption))))) | (go_at_call 17; with_reducible exact later_of (HV.out _ (HT.out.later (by repeat (first | exact ext_refl _ | refine ext_alloc ?_ _ | refine ext_later ?_ _ | refine ext_drew ?_ | refine ext_drewN ?_ _ | refine ext_setCell ?_ _ _ (by first | assumption | (dsimp only; omega)) | assumption))))) | (go_at_call 18; with_reducible exact later_of (HA.out _ (HT.out.later (by repeat (first | exact ext_refl _ | refine ext_alloc ?_ _ | refine ext_later ?_ _ | refine ext_drew ?_ | refine ext_drewN ?_ _ | refine ext_setCell ?_ _ _ (by first | assumption | (dsimp only; omega)) | assumption)))))))
  refine wpQuiet_nil ?_
  rintro _ ⟨x9, rfl⟩
  go_wp2
  all_goals (go_ret; exact ⟨by first | rfl | (simp; omega), Later.ex (by repeat (first | exact ext_refl _ | refine ext_alloc ?_ _ | refine ext_later ?_ _ | refine ext_drew ?_ | refine ext_drewN ?_ _ | refine ext_setCell ?_ _ _ (by first | assumption | (dsimp only; omega)) | assumption))⟩)

theorem forms_any (n1 i1 h1 n2 i2 h2 self inc : Int) (w : World) (ht : Tab w) : Gives Tryd.prog 3 #[.agg #[.int .i64 n1, .int .i64 i1, .int .i64 h1], .agg #[.int .i64 n2, .int .i64 i2, .int .i64 h2], .int .i64 self, .int .i64 inc] w (.bool true) := by
  by_cases hc : 0 < cmpC i2 h2 i1 h1
  · exact forms_b n1 i1 h1 n2 i2 h2 self inc hc w ht
  · exact forms_a n1 i1 h1 n2 i2 h2 self inc (Int.not_lt.1 hc) w ht
end Go.Proofs.YtbdhnmjmbbahhaaDoor
