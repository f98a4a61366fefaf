/- The reference's clock: its memory; At, without, Cut. -/
import Derived.Test.YtcmidomgnbodiaaProg
import Derived.Test.YtcmidomgnbodiaaWatMath
import Derived.Test.YtcmidomgnbodiaaLaid
import Derived.Test.YtcmidomgnbodiaaTaken
import Derived.Deep.Cut
import Derived.LoopTactic
import Derived.BigRegion
import Derived.RegionTactic
namespace Go.Proofs.Ytcmidomgnbodiaa
open Go Go.RowKit Go.BigFrame

def elemMo : Elem Try.prog Mo where
  enc m := [.int .i64 m.n, .int .i64 m.t]
  k := 2
  pos := by decide
  len _ := rfl
  one _ u hu := by
    simp only [List.mem_cons, List.not_mem_nil, or_false] at hu
    rcases hu with rfl | rfl <;> rfl
  t := 58
  sl := 26
  under := Try.underlying26
  z := .agg #[.int .i64 0, .int .i64 0]
  bytes := 16
  bpos := by decide
  info := by kernel_rfl
  zs := by kernel_rfl

/-- The clock at block m: its moments; the blocks that it reaches. -/
def RefC (m : Nat) (L : List Mo) (W : World) (H : Nat → Prop) : Prop :=
  ∃ v, W.heap[m]? = some (.cells #[v] 28 (0, 0)) ∧ SrcE elemMo W v L ∧ ∀ k, H k ↔ k = m ∨ (L ≠ [] ∧ ∃ o n c, v = .slice (some ⟨k, o, none⟩) n c)
theorem refC_owns (m : Nat) (L : List Mo) : Owns (RefC m L) where
  lt W H h k hk := by
    obtain ⟨v, hm, hr, hH⟩ := h
    rcases (hH k).1 hk with rfl | ⟨hne, o, n, c, hv⟩
    · exact (Array.getElem?_eq_some_iff.1 hm).1
    · exact hr.1.lt hne hv
  kept W W' H h hs hk := by
    obtain ⟨v, hm, hr, hH⟩ := h
    exact ⟨v, (hk m ((hH m).2 (.inl rfl))).trans hm, ⟨hr.1.kept hs fun b o n c hl hv => hk b ((hH b).2 (.inr ⟨hl, o, n, c, hv⟩)), hr.2⟩, hH⟩
def RCEnd (m : Nat) (L : List Mo) (H : Nat → Prop) (W W' : World) : Prop := ∃ H', RefC m L W' H' ∧ Fr (fun k => k = m) W W' ∧ ∀ k, H' k → H k ∨ W.heap.size ≤ k
theorem RefC.cells {m : Nat} {L : List Mo} {W : World} {H : Nat → Prop} (h : RefC m L W H) : ∃ p cap, m < W.heap.size ∧ W.heap[m]? = some (.cells #[.slice p L.length cap] 28 (0, 0)) ∧ SrcE elemMo W (.slice p L.length cap) L := by
  obtain ⟨v, hm, hr, _⟩ := h
  obtain ⟨p, cap, rfl, _⟩ := hr.1.form
  exact ⟨p, cap, (Array.getElem?_eq_some_iff.1 hm).1, hm, hr⟩

/-- What At answers. -/
def atV : Option Mo → Value
  | some m => .tuple #[.int .i64 m.t, .bool true]
  | none => .tuple #[.int .i64 0, .bool false]
theorem hasM_up {L : List Mo} {k : Nat} {n : Int} {x : Mo} (hk : L[k]? = some x) : hasM (L.take (k + 1)) n = (hasM (L.take k) n).or (if x.n == n then some x else none) := by
  unfold hasM
  rw [List.take_add_one, hk, List.find?_append]
  cases h : x.n == n <;> simp [h]
theorem hasM_hit {L : List Mo} {k : Nat} {n : Int} {x : Mo} (hk : L[k]? = some x) (h0 : hasM (L.take k) n = none) (hx : (x.n == n) = true) : hasM L n = some x := by
  have h1 := hasM_up (n := n) hk
  rw [h0, hx] at h1
  simp only [if_true, Option.none_or] at h1
  unfold hasM at h1 ⊢
  rw [← List.take_append_drop (k + 1) L, List.find?_append, h1]
  rfl

set_option maxHeartbeats 1000000 in
set_option maxRecDepth 100000 in
theorem refAt_any (m : Nat) (L : List Mo) (n : Int) (w : World) (H : Nat → Prop) (h : RefC m L w H) (hL : L.length ≤ 10000) : Gives Try.prog 18 #[.pointer (some ⟨m, 0, none⟩), .int .i64 n] w (atV (hasM L n)) := by
  unfold Gives
  obtain ⟨p, cap, hlt, hm, hs⟩ := h.cells
  have e0 : w.cell? ⟨m, 0, none⟩ = some (.slice p L.length cap) := by simp [World.cell?, hm]
  obtain ⟨p', cap', hv, hrow⟩ := hs.1.form
  obtain ⟨rfl, -, rfl⟩ := Value.slice.inj hv
  have HR := Lib.hid hrow
  clear h hm hs hv hrow
  go_enter Try.func18, Try.ntmps18
  go_wp2_with fail
  go_loopw [13] (fun v13 wr => ∃ k : Nat, v13 = .int .i64 k ∧ k ≤ L.length ∧ Hid (hasM (L.take k) n = none) ∧ ∃ x : Later w, wr = x.w) (fun v13 _ => L.length - (intOf v13).toNat)
  case atStart => exact ⟨0, rfl, by omega, Lib.hid rfl, ⟨w, Below.refl _ _⟩, rfl⟩
  case round =>
    obtain ⟨k, rfl, hk, HN, x, rfl⟩ := hrel
    by_cases hkl : k < L.length
    · obtain ⟨⟨cn, ct⟩, hkc⟩ : ∃ c, L[k]? = some c := ⟨_, List.getElem?_eq_getElem hkl⟩
      rcases HR.out with h0 | ⟨b, o, rfl, hbl, hc⟩
      · rw [h0] at hkl; simp at hkl
      have a0 : x.w.cell? ⟨b, o + k * 2, none⟩ = some (.int .i64 cn) := (x.below.cell (p := ⟨b, _, none⟩) hbl).trans (hc k _ hkc 0 _ rfl)
      have a1 : x.w.cell? ⟨b, o + k * 2 + 1, none⟩ = some (.int .i64 ct) := (x.below.cell (p := ⟨b, _, none⟩) hbl).trans (hc k _ hkc 1 _ rfl)
      have hkd : decide ((k : Int) < (L.length : Int)) = true := by simp; omega
      have HK := Lib.hid hkc
      clear hc hkc
      cases hcn : (cn == n) with
      | true =>
        have HV : Hid (atV (hasM L n) = .tuple #[.int .i64 ct, .bool true]) := Lib.hid (by rw [hasM_hit HK.out HN.out hcn]; rfl)
        go_wp2_with fail
        rw [HV.out]
        exact bodyPost_ret (v := .tuple #[.int .i64 ct, .bool true]) (by simp [results, Try.results18, go_sem]) rfl ⟨rfl, Later.ex (by repeat (first | exact ext_refl _ | refine ext_alloc ?_ _ | refine ext_later ?_ _ | refine ext_drew ?_ | refine ext_drewN ?_ _))⟩
      | false =>
        have HN' := Lib.hid (show hasM (L.take (k + 1)) n = none from by rw [hasM_up HK.out, HN.out, hcn]; rfl)
        go_wp2_with fail
        go_roundw
        case rel => exact ⟨k + 1, by go_num, by omega, HN', Later.ex (by repeat (first | exact ext_refl _ | refine ext_alloc ?_ _ | refine ext_later ?_ _ | refine ext_drew ?_ | refine ext_drewN ?_ _))⟩
        case measure => simp [intOf]; omega
    · obtain rfl : k = L.length := by omega
      have HV : Hid (atV (hasM L n) = .tuple #[.int .i64 0, .bool false]) := Lib.hid (by have := HN.out; rw [List.take_length] at this; rw [this]; rfl)
      go_wp2_with fail
      rw [HV.out]
      exact bodyPost_ret (v := .tuple #[.int .i64 0, .bool false]) (by simp [results, Try.results18, go_sem]) rfl ⟨rfl, Later.ex x.below⟩
end Go.Proofs.Ytcmidomgnbodiaa
