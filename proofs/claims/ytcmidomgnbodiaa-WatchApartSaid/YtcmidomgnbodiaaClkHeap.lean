/- The landed clock as a heap: Len, Less; what a step on it keeps. -/
import Derived.Test.YtcmidomgnbodiaaClk
import Derived.Test.YtcmidomgnbodiaaHeapOps
import Derived.Test.YtcmidomgnbodiaaHeapRemove
import Derived.Test.YtcmidomgnbodiaaVia
import Derived.RegionTactic
import Derived.BigRegion
import Derived.Deep.RegionLaw
namespace Go.Proofs.Ytcmidomgnbodiaa
open Go Go.RowKit

theorem infoMoment : (Try.prog.info? 55).map (fun i => (i.zero, i.size, i.bytes)) = some (some (.agg #[.int .i64 0, .int .i64 0]), 2, 16) := by kernel_rfl

theorem lessM_ordered : Ordered lessM := ⟨fun x y h => lessM_asym h, fun x y z h1 h2 => by unfold lessM at *; simp only [decide_eq_false_iff_not] at *; omega⟩

/-- A step on the landed clock: what it holds behind, what it may have turned. -/
def KEnd (q : Nat) (L : List Mo) (F : Nat → Prop) (W W' : World) : Prop := ∃ F', ClkQ q L W' F' ∧ Fr F W W' ∧ ∀ k, F' k → F k ∨ W.heap.size ≤ k
theorem kEnd_refl {q : Nat} {L : List Mo} {F : Nat → Prop} {W : World} (h : ClkQ q L W F) : KEnd q L F W W := ⟨F, h, Fr.refl _ _, fun _ hk => .inl hk⟩
theorem KEnd.step {q : Nat} {L' : List Mo} {F F1 : Nat → Prop} {W W1 W2 : World} (hf : Fr F W W1) (hs : ∀ k, F1 k → F k ∨ W.heap.size ≤ k) (h : KEnd q L' F1 W1 W2) : KEnd q L' F W W2 := by
  obtain ⟨F2, h1, h2, h3⟩ := h
  refine ⟨F2, h1, hf.trans h2 hs, fun k hk => ?_⟩
  rcases h3 k hk with h | h
  · exact hs k h
  · exact .inr (Nat.le_trans hf.size h)
theorem KEnd.later {q : Nat} {L : List Mo} {F : Nat → Prop} {W W1 : World} (h : KEnd q L F W W1) (x : Later W1) : KEnd q L F W x.w := by
  obtain ⟨F1, h1, h2, h3⟩ := h
  exact ⟨F1, (clkQ_owns q L).kept W1 x.w F1 h1 x.below.size (fun k hk => x.below.block k ((clkQ_owns q L).lt W1 F1 h1 k hk)), h2.later x, h3⟩
theorem KEnd.drew {q : Nat} {L : List Mo} {F : Nat → Prop} {W W1 : World} (h : KEnd q L F W W1) : KEnd q L F W W1.drew := h.later ⟨W1.drew, ext_drew (ext_refl W1)⟩

abbrev hpW (q : Nat) : Value := .iface 53 (.pointer (some ⟨q, 0, none⟩))
def encW (t : Mo) : Value := .iface 55 (.agg #[.int .i64 t.n, .int .i64 t.t])

theorem load_moments {q : Nat} {L : List Mo} {W : World} {p : Option Addr} {cap : Nat} (hc : ClkCells W q L p cap) : (loadVar 48 ⟨q, 0, none⟩).run Try.prog W = .ok (.slice p L.length cap) W := by
  have h1 := hc.h1
  simp [loadVar, isAgg, go_sem, h1]

set_option maxHeartbeats 1000000 in
set_option maxRecDepth 100000 in
theorem lenM_calls (p : Option Addr) (n cap : Nat) (w : World) : Gives Try.prog 47 #[.slice p n cap] w (.int .i64 n) := by
  unfold Gives
  go_enter Try.func47, Try.ntmps47
  go_wp2_with fail
  go_ret
  exact ⟨rfl, Later.ex (by repeat (first | exact ext_refl _ | refine ext_later ?_ _ | refine ext_alloc ?_ _ | refine ext_drew ?_ | refine ext_drewN ?_ _))⟩

theorem lessM_at {t u : Mo} (h : t.t ≠ u.t) : lessM t u = decide (t.t < u.t) := by
  unfold lessM
  rw [decide_eq_decide]
  omega
theorem lessM_id {t u : Mo} (h : t.t = u.t) : lessM t u = decide (t.n < u.n) := by
  unfold lessM
  rw [decide_eq_decide]
  omega

set_option maxHeartbeats 1000000 in
set_option maxRecDepth 100000 in
theorem lessK_calls (q : Nat) (L : List Mo) (p : Option Addr) (cap : Nat) (w : World) (hc : ClkCells w q L p cap) (i j : Nat) (x y : Mo) (hi : L[i]? = some x) (hj : L[j]? = some y) :
    Gives Try.prog 48 #[.slice p L.length cap, .int .i64 i, .int .i64 j] w (.bool (lessM x y)) := by
  unfold Gives
  have hil := (List.getElem?_eq_some_iff.1 hi).1
  have hjl := (List.getElem?_eq_some_iff.1 hj).1
  rcases hc.row with h0 | ⟨g, rfl, hg, hgq, _, hcell⟩
  · rw [h0] at hil; simp at hil
  obtain ⟨a0, a1⟩ := hcell i _ hi
  obtain ⟨b0, b1⟩ := hcell j _ hj
  have HT := Lib.hid (@lessM_at x y)
  have HN := Lib.hid (@lessM_id x y)
  obtain ⟨m, T⟩ := x
  obtain ⟨n, U⟩ := y
  dsimp only at a0 a1 b0 b1 HT HN
  obtain ⟨N, hN⟩ : ∃ N : Nat, L.length = N := ⟨_, rfl⟩
  rw [hN] at hil hjl ⊢
  clear hcell hi hj hN hc
  by_cases e : T = U
  · have e1 : (T != U) = false := by simpa using e
    have HV := Lib.hid (HN.out e)
    clear HT HN e
    go_enter Try.func48, Try.ntmps48
    go_wp2_with fail
    go_quiet (fail)
    go_wp2_with fail
    go_quiet (fail)
    go_wp2_with fail
    go_ret
    exact ⟨by rw [HV.out]; rfl, Later.ex (by repeat (first | exact ext_refl _ | refine ext_later ?_ _ | refine ext_alloc ?_ _ | refine ext_drew ?_ | refine ext_drewN ?_ _))⟩
  · have e1 : (T != U) = true := by simpa using e
    have HV := Lib.hid (HT.out e)
    clear HT HN e
    go_enter Try.func48, Try.ntmps48
    go_wp2_with fail
    go_quiet (fail)
    go_wp2_with fail
    go_quiet (fail)
    go_wp2_with fail
    go_ret
    exact ⟨by rw [HV.out]; rfl, Later.ex (by repeat (first | exact ext_refl _ | refine ext_later ?_ _ | refine ext_alloc ?_ _ | refine ext_drew ?_ | refine ext_drewN ?_ _))⟩
end Go.Proofs.Ytcmidomgnbodiaa
