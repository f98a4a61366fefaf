/- The landed queue as a heap: what its methods owe. -/
import Derived.Test.YtlcmehighgmoeaaRum
import Derived.Test.YtlcmehighgmoeaaHeapOps
import Derived.Test.YtlcmehighgmoeaaVia
import Derived.Test.YtlcmehighgmoeaaRefPut
import Derived.Test.YtlcmehighgmoeaaTakeMath
import Derived.RegionTactic
import Derived.BigRegion
import Derived.Deep.RegionLaw
namespace Go.Proofs.Ytlcmehighgmoeaa
open Go Go.RowKit

theorem infoTelling : (Try.prog.info? 60).map (fun i => (i.zero, i.size, i.bytes)) = some (some (.agg #[.int .i64 0, .int .i64 0, .int .i64 0, .int .i64 0]), 4, 32) := by kernel_rfl

instance (t u : Td) : Decidable (t.lt u) := inferInstanceAs (Decidable (t.n < u.n ∨ (t.n = u.n ∧ t.c.n < u.c.n)))
def lessT (t u : Td) : Bool := decide (t.lt u)
theorem lessT_ordered : Ordered lessT := ⟨fun x y h => by unfold lessT at *; simp only [decide_eq_true_eq, decide_eq_false_iff_not] at *; exact Td.lt_asymm h, fun x y z h1 h2 => by unfold lessT at *; simp only [decide_eq_false_iff_not] at *; unfold Td.lt at *; omega⟩

/-- A step on the landed queue: what it holds behind, what it may have turned. -/
def REnd (q often : Nat) (L : List Td) (F : Nat → Prop) (W W' : World) : Prop := ∃ F', RumQ q often L W' F' ∧ Fr F W W' ∧ ∀ k, F' k → F k ∨ W.heap.size ≤ k
theorem rEnd_refl {q often : Nat} {L : List Td} {F : Nat → Prop} {W : World} (h : RumQ q often L W F) : REnd q often L F W W := ⟨F, h, Fr.refl _ _, fun _ hk => .inl hk⟩
theorem REnd.step {q often : Nat} {L' : List Td} {F F1 : Nat → Prop} {W W1 W2 : World} (hf : Fr F W W1) (hs : ∀ k, F1 k → F k ∨ W.heap.size ≤ k) (h : REnd q often L' F1 W1 W2) : REnd q often L' F W W2 := by
  obtain ⟨F2, h1, h2, h3⟩ := h
  refine ⟨F2, h1, hf.trans h2 hs, fun k hk => ?_⟩
  rcases h3 k hk with h | h
  · exact hs k h
  · exact .inr (Nat.le_trans hf.size h)
theorem REnd.later {q often : Nat} {L : List Td} {F : Nat → Prop} {W W1 : World} (h : REnd q often L F W W1) (x : Later W1) : REnd q often L F W x.w := by
  obtain ⟨F1, h1, h2, h3⟩ := h
  exact ⟨F1, (rumQ_owns q often L).kept W1 x.w F1 h1 x.below.size (fun k hk => x.below.block k ((rumQ_owns q often L).lt W1 F1 h1 k hk)), h2.later x, h3⟩

abbrev hpV (q : Nat) : Value := .iface 62 (.pointer (some ⟨q, 1, none⟩))
def encT (t : Td) : Value := .iface 60 (.agg #[.int .i64 t.c.n, .int .i64 t.c.i, .int .i64 t.c.h, .int .i64 t.n])

theorem load_waiting {q often : Nat} {L : List Td} {W : World} {p : Option Addr} {cap : Nat} (hc : RumCells W q often L p cap) : (loadVar 55 ⟨q, 1, none⟩).run Try.prog W = .ok (.slice p L.length cap) W := by
  have h1 := hc.h1
  simp [loadVar, isAgg, go_sem, h1]

set_option maxHeartbeats 1000000 in
set_option maxRecDepth 100000 in
theorem len_calls (p : Option Addr) (n cap : Nat) (w : World) : Gives Try.prog 58 #[.slice p n cap] w (.int .i64 n) := by
  unfold Gives
  go_enter Try.func58, Try.ntmps58
  go_wp2_with fail
  go_ret
  exact ⟨rfl, Later.ex (by repeat (first | exact ext_refl _ | refine ext_later ?_ _ | refine ext_alloc ?_ _ | refine ext_drew ?_ | refine ext_drewN ?_ _))⟩

theorem lessT_told {t u : Td} (h : t.n ≠ u.n) : lessT t u = decide ((t.n : Int) < u.n) := by
  unfold lessT
  rw [decide_eq_decide]
  unfold Td.lt
  omega
theorem lessT_node {t u : Td} (h : t.n = u.n) : lessT t u = decide (t.c.n < u.c.n) := by
  unfold lessT
  rw [decide_eq_decide]
  unfold Td.lt
  omega

set_option maxHeartbeats 1000000 in
set_option maxRecDepth 100000 in
theorem less_calls (q often : Nat) (L : List Td) (p : Option Addr) (cap : Nat) (w : World) (hc : RumCells w q often L p cap) (i j : Nat) (x y : Td) (hi : L[i]? = some x) (hj : L[j]? = some y) :
    Gives Try.prog 59 #[.slice p L.length cap, .int .i64 i, .int .i64 j] w (.bool (lessT x y)) := by
  unfold Gives
  have hil := (List.getElem?_eq_some_iff.1 hi).1
  have hjl := (List.getElem?_eq_some_iff.1 hj).1
  rcases hc.row with h0 | ⟨g, rfl, hg, hgq, _, hcell⟩
  · rw [h0] at hil; simp at hil
  obtain ⟨a0, _, _, a3⟩ := hcell i _ hi
  obtain ⟨b0, _, _, b3⟩ := hcell j _ hj
  have HT := Lib.hid (@lessT_told x y)
  have HN := Lib.hid (@lessT_node x y)
  obtain ⟨⟨m, xi, xs⟩, t⟩ := x
  obtain ⟨⟨n, yi, ys⟩, u⟩ := y
  dsimp only at a0 a3 b0 b3 HT HN
  have hTU : Hid (t = u ↔ (t : Int) = u) := Lib.hid (by omega)
  obtain ⟨T, hT⟩ : ∃ T : Int, (t : Int) = T := ⟨_, rfl⟩
  obtain ⟨U, hU⟩ : ∃ T : Int, (u : Int) = T := ⟨_, rfl⟩
  rw [hT] at a3 HT hTU
  rw [hU] at b3 HT hTU
  obtain ⟨N, hN⟩ : ∃ N : Nat, L.length = N := ⟨_, rfl⟩
  rw [hN] at hil hjl ⊢
  clear hcell hi hj hT hU hN hc
  by_cases e : T = U
  · have e1 : (T != U) = false := by simpa using e
    have HV := Lib.hid (HN.out (hTU.out.2 e))
    clear HT HN e hTU
    go_enter Try.func59, Try.ntmps59
    go_wp2_with fail
    go_quiet (fail)
    go_wp2_with fail
    go_quiet (fail)
    go_wp2_with fail
    go_ret
    exact ⟨by rw [HV.out]; rfl, Later.ex (by repeat (first | exact ext_refl _ | refine ext_later ?_ _ | refine ext_alloc ?_ _ | refine ext_drew ?_ | refine ext_drewN ?_ _))⟩
  · have e1 : (T != U) = true := by simpa using e
    have HV := Lib.hid (HT.out (fun h => e (hTU.out.1 h)))
    clear HT HN e hTU
    go_enter Try.func59, Try.ntmps59
    go_wp2_with fail
    go_quiet (fail)
    go_wp2_with fail
    go_quiet (fail)
    go_wp2_with fail
    go_ret
    exact ⟨by rw [HV.out]; rfl, Later.ex (by repeat (first | exact ext_refl _ | refine ext_later ?_ _ | refine ext_alloc ?_ _ | refine ext_drew ?_ | refine ext_drewN ?_ _))⟩
end Go.Proofs.Ytlcmehighgmoeaa
