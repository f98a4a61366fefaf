/- What Hear gives where the claim is valid: nothing where it is not greater, else the claim is stored. -/
import Derived.Test.YtbddjhkoikcgjaaView
namespace Go.Proofs.Ytbddjhkoikcgjaa
open Go Go.RowKit

set_option maxHeartbeats 1000000 in
set_option maxRecDepth 100000 in
theorem hear_low (b : Nat) (V : Vw) (c : Cl) (w : World) (h : ViewAt w b V) (hm : mayK c = true) (hle : cmpK c (V c.n.toNat) ≤ 0) : Gives Try.prog 8 #[.pointer (some ⟨b, 0, none⟩), c.val] w (.bool false) := by
  have hnb : 0 ≤ c.n ∧ c.n < 8 := by unfold mayK mayB at hm; simp only [decide_eq_true_eq] at hm; exact hm.1
  obtain ⟨n, i, s⟩ := c
  dsimp only at hnb hle
  obtain ⟨k, rfl⟩ : ∃ k : Nat, n = k := ⟨n.toNat, by omega⟩
  unfold Gives
  have hk : k < 8 := by omega
  have hlt := h.lt
  have H8 := cells8 V k hk
  have hc0 : w.cell? ⟨b, k * 3, none⟩ = some (.int .i64 (V k).n) := (h.cell _).trans H8.1
  have hc1 : w.cell? ⟨b, k * 3 + 1, none⟩ = some (.int .i64 (V k).i) := (h.cell _).trans H8.2.1
  have hc2 : w.cell? ⟨b, k * 3 + 2, none⟩ = some (.int .i64 (V k).h) := (h.cell _).trans H8.2.2
  have HM : Hid (∀ w, Gives Try.prog 17 #[.agg #[.int .i64 k, .int .i64 i, .int .i64 s]] w (.bool true)) := Lib.hid (fun w => (may_any k i s w).cast (by rw [show mayB k i s = true from hm]))
  simp only [Int.toNat_natCast] at hle
  obtain ⟨x, ex⟩ : ∃ x, cmpC i s (V k).i (V k).h = x := ⟨_, rfl⟩
  have HX : Hid (∀ w, Gives Try.prog 16 #[.agg #[.int .i64 k, .int .i64 i, .int .i64 s], .agg #[.int .i64 (V k).n, .int .i64 (V k).i, .int .i64 (V k).h]] w (.int .i64 x)) := Lib.hid (fun w => (compare_any k i s (V k).n (V k).i (V k).h w).cast (by rw [ex]))
  have hx : x ≤ 0 := by rw [← ex]; exact hle
  clear hm hle H8 ex h
  unfold Cl.val
  dsimp only
  go_enter Try.func8, Try.ntmps8
  go_wp2
  refine wp_region_later (by kernel_rfl) (by kernel_rfl) ?_
  repeat (go_big_quiet_step (first | (go_at_call 17; with_reducible exact later_of (HM.out _)) | (go_at_call 16; with_reducible exact later_of (HX.out _))))
  refine wpQuiet_nil ?_
  rintro _ ⟨x9, rfl⟩
  go_wp2
  all_goals go_ret
  all_goals exact ⟨rfl, Later.ex (by repeat (first | exact ext_refl _ | refine ext_alloc ?_ _ | refine ext_later ?_ _ | refine ext_drew ?_ | refine ext_drewN ?_ _))⟩

set_option maxHeartbeats 1000000 in
set_option maxRecDepth 100000 in
theorem hear_up (b : Nat) (V : Vw) (c : Cl) (w : World) (h : ViewAt w b V) (hm : mayK c = true) (hle : 0 < cmpK c (V c.n.toNat)) : Calls Try.prog 8 #[.pointer (some ⟨b, 0, none⟩), c.val] w fun e w' => e = .returned (.bool true) ∧ ViewAt w' b (putV V c) ∧ w.grownBy w' (some b) := by
  have hnb : 0 ≤ c.n ∧ c.n < 8 := by unfold mayK mayB at hm; simp only [decide_eq_true_eq] at hm; exact hm.1
  obtain ⟨n, i, s⟩ := c
  dsimp only at hnb hle
  obtain ⟨k, rfl⟩ : ∃ k : Nat, n = k := ⟨n.toNat, by omega⟩
  have hk : k < 8 := by omega
  have hlt := h.lt
  have hne : b ≠ w.heap.size := by omega
  have H8 := cells8 V k hk
  have hc0 : w.cell? ⟨b, k * 3, none⟩ = some (.int .i64 (V k).n) := (h.cell _).trans H8.1
  have hc1 : w.cell? ⟨b, k * 3 + 1, none⟩ = some (.int .i64 (V k).i) := (h.cell _).trans H8.2.1
  have hc2 : w.cell? ⟨b, k * 3 + 2, none⟩ = some (.int .i64 (V k).h) := (h.cell _).trans H8.2.2
  have hf0 := h.frozen (k * 3)
  have hf1 := h.frozen (k * 3 + 1)
  have hf2 := h.frozen (k * 3 + 2)
  have HM : Hid (∀ w, Gives Try.prog 17 #[.agg #[.int .i64 k, .int .i64 i, .int .i64 s]] w (.bool true)) := Lib.hid (fun w => (may_any k i s w).cast (by rw [show mayB k i s = true from hm]))
  simp only [Int.toNat_natCast] at hle
  obtain ⟨x, ex⟩ : ∃ x, cmpC i s (V k).i (V k).h = x := ⟨_, rfl⟩
  have HX : Hid (∀ w, Gives Try.prog 16 #[.agg #[.int .i64 k, .int .i64 i, .int .i64 s], .agg #[.int .i64 (V k).n, .int .i64 (V k).i, .int .i64 (V k).h]] w (.int .i64 x)) := Lib.hid (fun w => (compare_any k i s (V k).n (V k).i (V k).h w).cast (by rw [ex]))
  have hx : 0 < x := by rw [← ex]; exact hle
  have HV := Lib.hid h
  clear hm hle H8 ex h
  unfold Cl.val
  dsimp only
  go_enter Try.func8, Try.ntmps8
  go_wp2
  refine wp_region_later (by kernel_rfl) (by kernel_rfl) ?_
  repeat (go_big_quiet_step (first | (go_at_call 17; with_reducible exact later_of (HM.out _)) | (go_at_call 16; with_reducible exact later_of (HX.out _))))
  refine wpQuiet_nil ?_
  rintro _ ⟨x9, rfl⟩
  go_wp2
  go_region
  all_goals go_wp2
  all_goals go_ret
  all_goals refine ⟨rfl, ?_, ?_⟩
  all_goals have hb : Below w.heap.size w x9.w := by repeat (first | exact ext_refl _ | refine ext_alloc ?_ _ | refine ext_later ?_ _ | refine ext_drew ?_ | refine ext_drewN ?_ _)
  · exact ViewAt.set3 (HV.out.later hb) ⟨k, i, s⟩ k hk rfl
  · exact grownBy_trans (grownBy_of_below hb _) (grownBy_trans (grownBy_set _ _ _ _) (grownBy_trans (grownBy_set _ _ _ _) (grownBy_trans (grownBy_set _ _ _ _) (grownBy_drew _ _))))

/-- **Hear.** -/
theorem hear_any (b : Nat) (V : Vw) (c : Cl) (w : World) (h : ViewAt w b V) : Calls Try.prog 8 #[.pointer (some ⟨b, 0, none⟩), c.val] w fun e w' => e = .returned (.bool (heardB V c)) ∧ ViewAt w' b (hearV V c) ∧ w.grownBy w' (some b) := by
  by_cases hm : mayK c = true
  · by_cases hle : 0 < cmpK c (V c.n.toNat)
    · have e : heardB V c = true := by simp [heardB, hm, hle]
      rw [hearV, if_pos e, e]
      exact hear_up b V c w h hm hle
    · have e : heardB V c = false := by simp [heardB, hle]
      rw [hearV, if_neg (by simp [e]), e]
      exact (hear_low b V c w h hm (by omega)).mono fun _ _ ⟨he, x, hx⟩ => ⟨he, by rw [hx]; exact h.later x.below, by rw [hx]; exact grownBy_of_below x.below _⟩
  · have e : heardB V c = false := by simp [heardB, hm]
    rw [hearV, if_neg (by simp [e]), e]
    exact (hear_no b V c w h (by simpa using hm)).mono fun _ _ ⟨he, x, hx⟩ => ⟨he, by rw [hx]; exact h.later x.below, by rw [hx]; exact grownBy_of_below x.below _⟩
end Go.Proofs.Ytbddjhkoikcgjaa
