/- awake. -/
import Derived.Test.YtlcmehighgmoeaaRumSt
import Derived.Test.YtlcmehighgmoeaaOpenCalls
namespace Go.Proofs.Ytlcmehighgmoeaa
open Go Go.RowKit

theorem listAt_cells {W : World} {base : Nat} {u : Value} {l : List Cl} (h : W.ownsRow base 28 3 u l.length (cellsOf l)) (hne : 0 < l.length) : ∃ g cap, u = .slice (some ⟨g, 0, none⟩) l.length cap ∧ base ≤ g ∧ g < W.heap.size ∧ ∀ k c, l[k]? = some c → W.cell? ⟨g, k * 3, none⟩ = some (.int .i64 c.n) ∧ W.cell? ⟨g, k * 3 + 1, none⟩ = some (.int .i64 c.i) ∧ W.cell? ⟨g, k * 3 + 2, none⟩ = some (.int .i64 c.h) := by
  have hlt := h.lt
  have hc := fun g (hg : u.ownBlock = some g) => h.cells hg
  rcases h.2 with ⟨rfl, h0⟩ | ⟨g, cap, cur, rfl, hb, hg, _⟩
  · omega
  · refine ⟨g, cap, rfl, hb, (hlt g rfl).2, fun k c hk => ?_⟩
    obtain ⟨h0, h1, h2⟩ := cellsOf_at l k c hk
    have := hc g rfl
    simp only [addr_at] at this
    exact ⟨this _ _ h0, this _ _ h1, this _ _ h2⟩

set_option maxHeartbeats 4000000 in
set_option maxRecDepth 100000 in
theorem awakeR_any (w : World) : Gives Try.prog 19 #[] w (.bool true) := by
  unfold Gives
  have HN := Lib.hid (qs_new w [] 1 1 (by decide) w (Below.refl _ _) (fun b hb => by simp at hb))
  have HP1 : Hid (∀ W, QS w [] w.heap.size 1 [] W → Calls Try.prog 14 #[.pointer (some ⟨w.heap.size, 0, none⟩), .agg #[.int .i64 2, .int .i64 1, .int .i64 1]] W fun e W' => e = .returned (.bool true) ∧ QS w [] w.heap.size 1 [⟨⟨2, 1, 1⟩, 0⟩] W') := Lib.hid fun W h => (qs_put h ⟨2, 1, 1⟩).mono fun e W' ⟨R', he, hp, hq, _⟩ => by
    have e1 : putOf [] ⟨2, 1, 1⟩ = ([⟨⟨2, 1, 1⟩, 0⟩], true) := by rfl
    rw [e1] at he hp
    have := List.perm_singleton.1 hp
    subst this
    exact ⟨he, hq⟩
  have HP2 : Hid (∀ W, QS w [] w.heap.size 1 [⟨⟨2, 1, 1⟩, 0⟩] W → Calls Try.prog 14 #[.pointer (some ⟨w.heap.size, 0, none⟩), .agg #[.int .i64 1, .int .i64 1, .int .i64 3]] W fun e W' => e = .returned (.bool true) ∧ ∃ R, R.Perm [⟨⟨1, 1, 3⟩, 0⟩, ⟨⟨2, 1, 1⟩, 0⟩] ∧ QS w [] w.heap.size 1 R W') := Lib.hid fun W h => (qs_put h ⟨1, 1, 3⟩).mono fun e W' ⟨R', he, hp, hq, _⟩ => by
    have e1 : putOf [⟨⟨2, 1, 1⟩, 0⟩] ⟨1, 1, 3⟩ = ([⟨⟨2, 1, 1⟩, 0⟩, ⟨⟨1, 1, 3⟩, 0⟩], true) := by rfl
    rw [e1] at he hp
    exact ⟨he, R', hp.trans (List.Perm.swap _ _ _), hq⟩
  have HT : Hid (∀ R W, R.Perm [⟨⟨1, 1, 3⟩, 0⟩, ⟨⟨2, 1, 1⟩, 0⟩] → QS w [] w.heap.size 1 R W → Calls Try.prog 12 #[.pointer (some ⟨w.heap.size, 0, none⟩), .int .i64 1] W fun e W' => ∃ g cap, e = .returned (.slice (some ⟨g, 0, none⟩) 1 cap) ∧ g < W'.heap.size ∧ W'.cell? ⟨g, 0, none⟩ = some (.int .i64 1) ∧ Hid (∃ R', R'.length = 1 ∧ QS w [] w.heap.size 1 R' W')) := Lib.hid fun R W hR h => (qs_take h 1).mono fun e W' ⟨u, O, rem, R', he, hp, hc, hrow, hr, hq, _⟩ => by
    have hlen := hR.length_eq
    simp only [List.length_cons, List.length_nil] at hlen
    have hO1 : O.length = 1 := by omega
    have hpick : Picked [(⟨⟨1, 1, 3⟩, 0⟩ : Td), ⟨⟨2, 1, 1⟩, 0⟩] [⟨⟨1, 1, 3⟩, 0⟩] [⟨⟨2, 1, 1⟩, 0⟩] := ⟨List.Perm.refl _, by simp, fun x hx y hy => by
      obtain rfl : x = _ := by simpa using hx
      obtain rfl : y = _ := by simpa using hy
      unfold Td.lt
      dsimp only
      omega⟩
    obtain ⟨rfl, hrem⟩ := picked_unique O _ _ _ _ _ hp hpick hR (by simpa using hO1)
    obtain ⟨g, cap, rfl, _, hg, hcell⟩ := listAt_cells (l := [⟨1, 1, 3⟩]) hrow (by simp)
    refine ⟨g, cap, he, hg, (hcell 0 _ rfl).1, Lib.hid ⟨R', ?_, hq⟩⟩
    have e2 : backOf 1 [(⟨⟨1, 1, 3⟩, 0⟩ : Td)] = [] := by rfl
    rw [e2] at hr
    have h1 := hr.length_eq
    have h2 := hrem.length_eq
    simp at h1 h2
    omega
  go_enter Try.func19, Try.ntmps19
  go_wp2_with fail
  refine HN.out.mono ?_
  rintro e w1 ⟨rfl, hq1, _⟩
  have HQ1 := Lib.hid hq1
  clear hq1
  go_wp2_with fail
  refine (HP1.out _ HQ1.out).mono ?_
  rintro e w2 ⟨rfl, hq2⟩
  have HQ2 := Lib.hid hq2
  clear hq2
  go_wp2_with fail
  refine (HP2.out _ HQ2.out).mono ?_
  rintro e w3 ⟨rfl, R3, hR3, hq3⟩
  have HR3 := Lib.hid hR3
  have HQ3 := Lib.hid hq3
  clear hq3 hR3
  go_wp2_with fail
  refine (HT.out _ _ HR3.out HQ3.out).mono ?_
  rintro e w4 ⟨g, cap, rfl, hg, hc, HE⟩
  go_wp2_with fail
  obtain ⟨R4, hl4, hq4⟩ := HE.out
  have HQ4 := Lib.hid hq4
  have HL := Lib.hid (qs_len hq4)
  rw [hl4] at HL
  clear hq4 hl4
  refine Gives.mono' HL.out ?_
  intro x
  go_wp2_with fail
  go_ret
  exact ⟨rfl, Later.ex (below_later HQ4.out.below HQ4.out.below.size x)⟩

theorem nil_has (n : Int) (W : World) : Gives Try.prog 17 #[.pointer none, .int .i64 n] W (.tuple #[.agg #[.int .i64 0, .int .i64 0, .int .i64 0], .int .i64 0, .bool false]) := hasR_nil n W

set_option maxHeartbeats 4000000 in
set_option maxRecDepth 100000 in
/-- **RumorNil.** -/
theorem nilLaw_any (c : Call5) (w : World) : Gives Try.prog 4 #[c.val] w (.bool true) := by
  obtain ⟨d, n, ⟨cn, ci, ch⟩⟩ := c
  unfold Gives Call5.val
  dsimp only
  have HH := Lib.hid (fun W => nil_has n W)
  have HP : Hid (∀ W, Gives Try.prog 14 #[.pointer none, .agg #[.int .i64 cn, .int .i64 ci, .int .i64 ch]] W (.bool false)) := Lib.hid (fun W => putR_nil ⟨cn, ci, ch⟩ W)
  have HT := Lib.hid (fun W => takeR_nil n W)
  have HL := Lib.hid lenR_nil
  have HA := Lib.hid awakeR_any
  go_enter Try.func4, Try.ntmps4
  go_wp2_with fail
  refine Gives.mono' (HH.out _) ?_
  intro x1
  go_wp2_with fail
  have HB := Lib.hid (ext_alloc (ext_later (ext_alloc (ext_refl w) (.cells #[.int .i64 d, .int .i64 n, .int .i64 cn, .int .i64 ci, .int .i64 ch] 30)) x1) (.cells #[.int .i64 0, .int .i64 0, .int .i64 0] 28))
  have f1 : (x1.w.alloc (.cells #[.int .i64 0, .int .i64 0, .int .i64 0] 28)).cell? ⟨w.heap.size, 1, none⟩ = some (.int .i64 n) := by simp [go_sem]
  have k0 : (x1.w.alloc (.cells #[.int .i64 0, .int .i64 0, .int .i64 0] 28)).cell? ⟨x1.w.heap.size, 0, none⟩ = some (.int .i64 0) := by simp [go_sem]
  have k1 : (x1.w.alloc (.cells #[.int .i64 0, .int .i64 0, .int .i64 0] 28)).cell? ⟨x1.w.heap.size, 1, none⟩ = some (.int .i64 0) := by simp [go_sem]
  have k2 : (x1.w.alloc (.cells #[.int .i64 0, .int .i64 0, .int .i64 0] 28)).cell? ⟨x1.w.heap.size, 2, none⟩ = some (.int .i64 0) := by simp [go_sem]
  have l1 : w.heap.size < (x1.w.alloc (.cells #[.int .i64 0, .int .i64 0, .int .i64 0] 28)).heap.size := by have h := x1.below.size; rw [World.size_alloc] at h ⊢; omega
  have l2 : x1.w.heap.size < (x1.w.alloc (.cells #[.int .i64 0, .int .i64 0, .int .i64 0] 28)).heap.size := by simp
  obtain ⟨w1, hw1⟩ : ∃ W, x1.w.alloc (.cells #[.int .i64 0, .int .i64 0, .int .i64 0] 28) = W := ⟨_, rfl⟩
  rw [hw1] at HB f1 k0 k1 k2 l1 l2 ⊢
  obtain ⟨b1, hb1⟩ : ∃ b, x1.w.heap.size = b := ⟨_, rfl⟩
  rw [hb1] at k0 k1 k2 l2 ⊢
  clear hw1 hb1
  refine Gives.mono' (HP.out _) ?_
  intro x2
  go_wp2_with fail
  refine Gives.on (HT.out _) ?_
  intro x3
  go_wp2_with fail
  refine Gives.on (HL.out _) ?_
  intro x4
  go_wp2_with fail
  refine Gives.on (HA.out _) ?_
  intro x5
  go_wp2_with fail
  go_ret
  exact ⟨rfl, Later.ex (by repeat (first | exact HB.out | refine ext_later ?_ _ | refine ext_alloc ?_ _ | refine ext_drew ?_ | refine ext_drewN ?_ _))⟩
end Go.Proofs.Ytlcmehighgmoeaa
