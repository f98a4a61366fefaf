/- The landed queue: Has. -/
import Derived.Test.YtlcmehighgmoeaaRum
import Derived.RegionTactic
import Derived.BigRegion
import Derived.Deep.RegionLaw
namespace Go.Proofs.Ytlcmehighgmoeaa
open Go Go.RowKit

/-- A node's claim, and how often it was told. -/
def hasOf (L : List Td) (n : Int) : Option Td := L.find? (fun t => t.c.n == n)
def hasV : Option Td → Value
  | some t => .tuple #[t.c.val, .int .i64 t.n, .bool true]
  | none => .tuple #[Cl.zero.val, .int .i64 0, .bool false]
theorem find_ix (L : List Td) (n : Int) : (hasOf L n = none ∧ atIx L n = -1) ∨ ∃ (k : Nat) (t : Td), hasOf L n = some t ∧ L[k]? = some t ∧ atIx L n = k ∧ t.c.n = n := by
  cases hf : L.findIdx? (fun t => t.c.n == n) with
  | none =>
    refine .inl ⟨?_, by simp [atIx, hf]⟩
    rw [List.findIdx?_eq_none_iff] at hf
    unfold hasOf
    rw [List.find?_eq_none]
    intro x hx
    simpa using hf x hx
  | some k =>
    rw [List.findIdx?_eq_some_iff_getElem] at hf
    obtain ⟨hlt, h1, h2⟩ := hf
    refine .inr ⟨k, L[k], ?_, List.getElem?_eq_getElem hlt, ?_, by simpa using h1⟩
    · unfold hasOf
      rw [List.find?_eq_some_iff_getElem]
      exact ⟨h1, k, hlt, rfl, fun j hj => by simpa using h2 j hj⟩
    · exact atIx_hit (List.getElem?_eq_getElem hlt) (by simpa using h1) fun j hj u hu => by
        obtain ⟨hjl, rfl⟩ := List.getElem?_eq_some_iff.1 hu
        simpa using h2 j hj

set_option maxHeartbeats 1000000 in
set_option maxRecDepth 100000 in
theorem hasR_nil (n : Int) (w : World) : Gives Try.prog 17 #[.pointer none, .int .i64 n] w (hasV none) := by
  unfold Gives
  go_enter Try.func17, Try.ntmps17
  go_wp2_with fail
  exact bodyPost_ret (v := hasV none) (by simp [results, Try.results17, go_sem, hasV, Cl.zero, Cl.val]) rfl ⟨rfl, Later.ex (by repeat (first | exact ext_refl _ | refine ext_alloc ?_ _ | refine ext_later ?_ _ | refine ext_drew ?_ | refine ext_drewN ?_ _ | refine ext_setCell ?_ _ _ (by first | assumption | (dsimp only; omega))))⟩

set_option maxHeartbeats 1000000 in
set_option maxRecDepth 100000 in
theorem hasR_any (q often : Nat) (L : List Td) (n : Int) (w : World) (F : Nat → Prop) (h : RumQ q often L w F) (hL : L.length ≤ 1000) : Gives Try.prog 17 #[.pointer (some ⟨q, 0, none⟩), .int .i64 n] w (hasV (hasOf L n)) := by
  unfold Gives
  obtain ⟨p, cap, hc⟩ := h.cells
  have hlt := hc.lt
  have hne : q ≠ w.heap.size := by omega
  have hh1 := hc.h1
  have HI := Lib.hid (indexOf_any q often L n p cap (w.alloc (.cells #[.int .i64 0, .int .i64 0, .int .i64 0] 28)) (hc.later (ext_alloc (ext_refl w) _)) hL)
  have HC := Lib.hid hc
  clear h hc
  rcases find_ix L n with ⟨hn, ha⟩ | ⟨k, ⟨⟨m, i, s⟩, t⟩, hn, hk, ha, hm⟩
  · rw [hn]
    rw [ha] at HI
    clear hn ha
    go_enter Try.func17, Try.ntmps17
    go_wp2_with fail
    refine Gives.mono' HI.out ?_
    intro x
    go_wp2_with fail
    exact bodyPost_ret (v := hasV none) (by simp [results, Try.results17, go_sem, hasV, Cl.zero, Cl.val]) rfl ⟨rfl, Later.ex (by repeat (first | exact ext_refl _ | refine ext_alloc ?_ _ | refine ext_later ?_ _ | refine ext_drew ?_ | refine ext_drewN ?_ _ | refine ext_setCell ?_ _ _ (by first | assumption | (dsimp only; omega))))⟩
  · rw [hn]
    rw [ha] at HI
    have hkl := (List.getElem?_eq_some_iff.1 hk).1
    rcases HC.out.row with h0 | ⟨g, rfl, hg, hgq, _, hcell⟩
    · rw [h0] at hkl; simp at hkl
    obtain ⟨a0, a1, a2, a3⟩ := hcell k _ hk
    dsimp only at a0 a1 a2 a3
    have hgn : g ≠ w.heap.size := by omega
    obtain ⟨T, hT⟩ : ∃ T : Int, T = (t : Int) := ⟨_, rfl⟩
    rw [← hT] at a3
    have HV : Hid (hasV (some ⟨⟨m, i, s⟩, t⟩) = .tuple #[.agg #[.int .i64 m, .int .i64 i, .int .i64 s], .int .i64 T, .bool true]) := Lib.hid (by rw [hT]; rfl)
    clear hn ha hcell hk hm hT
    go_enter Try.func17, Try.ntmps17
    go_wp2_with fail
    refine Gives.mono' HI.out ?_
    intro x
    go_wp2_with fail
    go_region_law (fail)
    all_goals go_wp2_with fail
    all_goals
      rw [HV.out]
      exact bodyPost_ret (v := .tuple #[.agg #[.int .i64 m, .int .i64 i, .int .i64 s], .int .i64 T, .bool true]) (by simp [results, Try.results17, go_sem]) rfl ⟨rfl, Later.ex (by repeat (first | exact ext_refl _ | refine ext_alloc ?_ _ | refine ext_later ?_ _ | refine ext_drew ?_ | refine ext_drewN ?_ _ | refine ext_setCell ?_ _ _ (by first | assumption | (dsimp only; omega))))⟩
end Go.Proofs.Ytlcmehighgmoeaa
