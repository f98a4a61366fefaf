/- BeliefNil's walk. -/
import Derived.Test.YtbddjhkoikcgjaaHere
namespace Go.Proofs.Ytbddjhkoikcgjaa
open Go Go.RowKit

theorem all_on {W : World} {y : Later W} (h : Calls Try.prog 10 #[.pointer none] y.w fun e w' => ∃ p cap, e = .returned (.slice p 0 cap) ∧ ∃ x : Later y.w, w' = x.w) {Q : Ending → World → Prop} (hQ : ∀ p cap (x : Later W), Q (.returned (.slice p 0 cap)) x.w) : Calls Try.prog 10 #[.pointer none] y.w Q :=
  h.mono fun _ _ ⟨p, cap, he, x, hx⟩ => by rw [he, hx]; exact hQ p cap ⟨x.w, y.below.trans (x.below.mono y.below.size)⟩

set_option maxHeartbeats 2000000 in
set_option maxRecDepth 100000 in
theorem nil_any (n i h : Int) (w : World) : Gives Try.prog 3 #[.agg #[.int .i64 n, .int .i64 i, .int .i64 h]] w (.bool true) := by
  unfold Gives
  have H1 : Hid (∀ w, Gives Try.prog 8 #[.pointer none, .agg #[.int .i64 n, .int .i64 i, .int .i64 h]] w (.bool false)) := Lib.hid (hear_nil ⟨n, i, h⟩)
  have H2 : Hid (∀ w, Gives Try.prog 9 #[.pointer none, .int .i64 n] w (.agg #[.int .i64 0, .int .i64 0, .int .i64 0])) := Lib.hid (fun w => of_nil n w)
  have H3 := Lib.hid all_nil
  have H4 := Lib.hid here_nil
  have H5 : Hid (∀ b W, ViewAt W b emptyV → Gives Try.prog 12 #[.pointer none, .pointer (some ⟨b, 0, none⟩)] W (.int .i64 0)) := Lib.hid (fun b W hv => join_none _ _ W fun _ hb => believed_tells b emptyV _ (hv.later hb))
  have H6 := Lib.hid copy_nil
  have H7 : Hid (∀ b W, Gives Try.prog 12 #[.pointer (some ⟨b, 0, none⟩), .pointer none] W (.int .i64 0)) := Lib.hid (fun b W => join_none _ _ W fun _ _ => believed_nil _)
  have H8 := Lib.hid awake_any
  go_enter Try.func3, Try.ntmps3
  go_wp2_with fail
  refine (new_any _).mono ?_
  rintro e w1 ⟨rfl, rfl⟩
  go_wp2_with fail
  refine Gives.mono' (H1.out _) ?_
  intro x1
  go_wp2_with fail
  refine Gives.on (H2.out _) ?_
  intro x2
  go_wp2_with fail
  refine all_on (H3.out _) ?_
  intro p cap x3
  go_wp2_with fail
  refine Gives.on (H4.out _) ?_
  intro x4
  go_wp2_with fail
  have hv0 : ViewAt x4.w (w.heap.size + 1) emptyV := by
    refine (ViewAt.later ?_ x4.below)
    have := heap_alloc_new (w.alloc (.cells #[.int .i64 n, .int .i64 i, .int .i64 h] 23)) (.cells (cellsV emptyV) 42)
    rwa [World.size_alloc] at this
  have HV := Lib.hid hv0
  clear hv0
  refine Gives.on (H5.out _ _ HV.out) ?_
  intro x5
  go_wp2_with fail
  refine Gives.on (H6.out _) ?_
  intro x6
  go_wp2_with fail
  refine Gives.on (H7.out _ _) ?_
  intro x7
  go_wp2_with fail
  refine Gives.on (H8.out _) ?_
  intro x8
  go_wp2_with fail
  go_ret
  exact ⟨rfl, Later.ex (by repeat (first | exact ext_refl _ | refine ext_alloc ?_ _ | refine ext_later ?_ _ | refine ext_drew ?_ | refine ext_drewN ?_ _))⟩
end Go.Proofs.Ytbddjhkoikcgjaa
