/- RumorBack's walk. -/
import Derived.Test.YtlcmehighgmoeaaRumAwake
namespace Go.Proofs.Ytlcmehighgmoeaa
open Go Go.RowKit

theorem mod_small (m : Int) (hm : 1 ≤ m) (hm2 : m ≤ 1000) (n : Int) : ∃ k : Nat, (k : Int) < m ∧ wrap64 ((IntKind.u64.wrap n).tmod m) = (k : Int) ∧ wrap64 (1 + (k : Int)) = ((k + 1 : Nat) : Int) := by
  have h0 : 0 ≤ IntKind.u64.wrap n := by
    unfold IntKind.wrap
    simp only [IntKind.signed, IntKind.bits, Bool.false_and, Bool.false_eq_true, if_false]
    exact Int.emod_nonneg _ (by decide)
  rw [Int.tmod_eq_emod_of_nonneg h0]
  have h1 := Int.emod_nonneg (IntKind.u64.wrap n) (show m ≠ 0 by omega)
  have h2 := Int.emod_lt_of_pos (IntKind.u64.wrap n) (show 0 < m by omega)
  obtain ⟨r, hr⟩ : ∃ r, IntKind.u64.wrap n % m = r := ⟨_, rfl⟩
  rw [hr] at h1 h2 ⊢
  refine ⟨r.toNat, by omega, ?_, ?_⟩
  · unfold wrap64; omega
  · unfold wrap64; omega

/-- What is left of one claim. -/
def oneBack (often : Nat) (c : Cl) (j : Nat) : List Td := if j < often then [⟨c, j⟩] else []
theorem picked_one {t : Td} {O rem : List Td} (h : Picked [t] O rem) (hl : O.length = 1) : O = [t] ∧ rem = [] := by
  have hp := h.perm
  have h1 := hp.length_eq
  simp only [List.length_append, List.length_cons, List.length_nil] at h1
  have hr : rem = [] := List.eq_nil_of_length_eq_zero (by omega)
  subst hr
  rw [List.append_nil] at hp
  exact ⟨List.perm_singleton.1 hp, rfl⟩

section
variable {W0 : World} {G : List Nat} {q often : Nat} {W : World}
/-- Take of a queue with one claim. -/
theorem qs_take_one {c : Cl} {j : Nat} (h : QS W0 G q often [⟨c, j⟩] W) (n : Int) (hn : 1 ≤ n) :
    Calls Try.prog 12 #[.pointer (some ⟨q, 0, none⟩), .int .i64 n] W fun e W' => ∃ p cap, e = .returned (.slice p 1 cap) ∧ QS W0 G q often (oneBack often c (j + 1)) W' ∧ Keeps G W W' :=
  (qs_take h n).mono fun e W' ⟨u, O, rem, R', he, hp, hc, hrow, hr, hq, hk⟩ => by
    have hO : O.length = 1 := by simp at hc; omega
    obtain ⟨rfl, rfl⟩ := picked_one hp hO
    obtain ⟨p, cap, rfl⟩ := ownsRow_form hrow
    refine ⟨p, cap, he, ?_, hk⟩
    have e2 : backOf often [(⟨c, j⟩ : Td)] = oneBack often c (j + 1) := by
      unfold backOf oneBack
      by_cases h : j + 1 < often <;> simp [h]
    rw [e2, List.nil_append] at hr
    have : R' = oneBack often c (j + 1) := by
      unfold oneBack at hr ⊢
      split
      · rename_i h; rw [if_pos h] at hr; exact List.perm_singleton.1 hr
      · rename_i h; rw [if_neg h] at hr; exact List.perm_nil.1 hr
    rw [← this]
    exact hq
theorem qs_take_none (h : QS W0 G q often [] W) (n : Int) :
    Calls Try.prog 12 #[.pointer (some ⟨q, 0, none⟩), .int .i64 n] W fun e W' => ∃ p cap, e = .returned (.slice p 0 cap) ∧ QS W0 G q often [] W' ∧ Keeps G W W' :=
  (qs_take h n).mono fun e W' ⟨u, O, rem, R', he, hp, hc, hrow, hr, hq, hk⟩ => by
    have hpl := hp.perm.length_eq
    simp only [List.length_append, List.length_nil] at hpl
    obtain rfl : O = [] := List.eq_nil_of_length_eq_zero (by omega)
    obtain rfl : rem = [] := List.eq_nil_of_length_eq_zero (by omega)
    obtain ⟨p, cap, rfl⟩ := ownsRow_form hrow
    have : R' = [] := List.perm_nil.1 hr
    subst this
    exact ⟨p, cap, he, hq, hk⟩
theorem qs_put_new {c : Cl} (h : QS W0 G q often [] W) (hm : mayK c = true) (hn : nothingK c = false) :
    Calls Try.prog 14 #[.pointer (some ⟨q, 0, none⟩), c.val] W fun e W' => e = .returned (.bool true) ∧ QS W0 G q often [⟨c, 0⟩] W' ∧ Keeps G W W' :=
  (qs_put h c).mono fun e W' ⟨R', he, hp, hq, hk⟩ => by
    rw [putOf_new hm hn rfl] at he hp
    have := List.perm_singleton.1 hp
    subst this
    exact ⟨he, hq, hk⟩
theorem putOf_one {c d : Cl} {j : Nat} (hm : mayK d = true) (hn : nothingK d = false) (he : c.n = d.n) : putOf [⟨c, j⟩] d = if 0 ≤ cmpK c d then ([⟨c, j⟩], false) else ([⟨d, 0⟩], true) := by
  have hh : hasOf [⟨c, j⟩] d.n = some ⟨c, j⟩ := by simp [hasOf, he]
  obtain ⟨k, hk, _, _, e⟩ := putOf_old hm hn hh
  rw [e]
  obtain rfl : k = 0 := by
    have := (List.getElem?_eq_some_iff.1 hk).1
    simp at this
    exact this
  split <;> rfl
theorem qs_put_one {c d : Cl} {j : Nat} (h : QS W0 G q often [⟨c, j⟩] W) (hm : mayK d = true) (hn : nothingK d = false) (hd : c.n = d.n) :
    Calls Try.prog 14 #[.pointer (some ⟨q, 0, none⟩), d.val] W fun e W' => e = .returned (.bool (!decide (0 ≤ cmpK c d))) ∧ QS W0 G q often (if 0 ≤ cmpK c d then [⟨c, j⟩] else [⟨d, 0⟩]) W' ∧ Keeps G W W' :=
  (qs_put h d).mono fun e W' ⟨R', he, hp, hq, hk⟩ => by
    rw [putOf_one hm hn hd] at he hp
    split
    · rename_i h0
      rw [if_pos h0] at he hp
      have := List.perm_singleton.1 hp
      subst this
      exact ⟨by rw [he]; simp [h0], hq, hk⟩
    · rename_i h0
      rw [if_neg h0] at he hp
      have := List.perm_singleton.1 hp
      subst this
      exact ⟨by rw [he]; simp [h0], hq, hk⟩
end

/-- One claim in a box, one queue behind it. -/
structure St1 (w : World) (often : Nat) (c : Cl) (R : List Td) (W : World) : Prop where
  qs : QS w [w.heap.size] (w.heap.size + 1) often R W
  box : W.heap[w.heap.size]? = some (.cells #[.int .i64 c.n, .int .i64 c.i, .int .i64 c.h] 28 (0, 0))
section
variable {w : World} {often : Nat} {c : Cl} {R : List Td} {W : World}
theorem St1.cells (h : St1 w often c R W) : W.cell? ⟨w.heap.size, 0, none⟩ = some (.int .i64 c.n) ∧ W.cell? ⟨w.heap.size, 1, none⟩ = some (.int .i64 c.i) ∧ W.cell? ⟨w.heap.size, 2, none⟩ = some (.int .i64 c.h) ∧ w.heap.size < W.heap.size :=
  ⟨by simp [World.cell?, h.box], by simp [World.cell?, h.box], by simp [World.cell?, h.box], (Array.getElem?_eq_some_iff.1 h.box).1⟩
theorem St1.later (h : St1 w often c R W) (x : Later W) : St1 w often c R x.w := ⟨h.qs.later x, (x.below.block _ (Array.getElem?_eq_some_iff.1 h.box).1).trans h.box⟩
theorem St1.mk' {R' : List Td} {W' : World} (h : St1 w often c R W) (hq : QS w [w.heap.size] (w.heap.size + 1) often R' W') (hk : Keeps [w.heap.size] W W') : St1 w often c R' W' := ⟨hq, (hk.2 _ (by simp)).trans h.box⟩
end

set_option maxHeartbeats 4000000 in
set_option maxRecDepth 100000 in
theorem backLaw_any (n i h often : Int) (w : World) (_ : (Lit.int .i64 often).wf = true) : Gives Try.prog 8 #[.agg #[.int .i64 n, .int .i64 i, .int .i64 h], .int .i64 often] w (.bool true) := by
  unfold Gives
  obtain ⟨K0, hK, hmod, hmod1⟩ := mod_small 20 (by decide) (by decide) often
  obtain ⟨OF, hOF⟩ : ∃ OF, K0 + 1 = OF := ⟨_, rfl⟩
  rw [hOF] at hmod1
  have HM0 := Lib.hid hmod
  have HM1 := Lib.hid hmod1
  clear hmod hmod1
  have HA := Lib.hid awakeR_any
  have HN := Lib.hid (qs_new w [w.heap.size] (OF : Int) OF (by omega) (w.alloc (.cells #[.int .i64 n, .int .i64 i, .int .i64 h] 28)) (ext_alloc (ext_refl w) _) (fun b hb => by obtain rfl : b = w.heap.size := (by simpa using hb); simp))
  rw [show (w.alloc (.cells #[.int .i64 n, .int .i64 i, .int .i64 h] 28)).heap.size = w.heap.size + 1 from by simp] at HN
  go_enter Try.func8, Try.ntmps8
  go_wp2_with fail
  rw [HM0.out, HM1.out]
  refine HN.out.mono ?_
  rintro e w1 ⟨rfl, hq1, hb1⟩
  have HS1 := Lib.hid (show St1 w OF ⟨n, i, h⟩ [] w1 from ⟨hq1, (hb1.block _ (by simp)).trans (heap_alloc_new w _)⟩)
  clear hq1 hb1 HM0 HM1 HN
  obtain ⟨c0, c1, c2, hl⟩ := HS1.out.cells
  dsimp only at c0 c1 c2
  by_cases hbad : mayB n i h = false ∨ nothingB i h = true
  · have HP : Hid (Calls Try.prog 14 #[.pointer (some ⟨w.heap.size + 1, 0, none⟩), .agg #[.int .i64 n, .int .i64 i, .int .i64 h]] w1 fun e W' => e = .returned (.bool false) ∧ St1 w OF ⟨n, i, h⟩ [] W') := Lib.hid ((qs_put HS1.out.qs ⟨n, i, h⟩).mono fun e W' ⟨R', he, hp, hq, hk⟩ => by
      rw [putOf_bad (c := ⟨n, i, h⟩) hbad] at he hp
      have := List.perm_nil.1 hp
      subst this
      exact ⟨he, HS1.out.mk' hq hk⟩)
    clear hbad
    go_wp2_with fail
    refine HP.out.mono ?_
    rintro e w2 ⟨rfl, hs2⟩
    have HS2 := Lib.hid hs2
    have HL : Hid (Gives Try.prog 16 #[.pointer (some ⟨w.heap.size + 1, 0, none⟩)] w2 (.int .i64 0)) := Lib.hid (qs_len hs2.qs)
    clear hs2 c0 c1 c2
    go_wp2_with fail
    refine Gives.mono' HL.out ?_
    intro x2
    go_wp2_with fail
    refine Gives.on (HA.out _) ?_
    intro x3
    go_wp2_with fail
    go_ret
    exact ⟨rfl, Later.ex (below_later HS2.out.qs.below HS2.out.qs.below.size x3)⟩
  · have hm : mayB n i h = true := by cases hm : mayB n i h <;> simp_all
    have hn : nothingB i h = false := by cases hn : nothingB i h <;> simp_all
    have HPN : Hid (∀ W, St1 w OF ⟨n, i, h⟩ [] W → Calls Try.prog 14 #[.pointer (some ⟨w.heap.size + 1, 0, none⟩), .agg #[.int .i64 n, .int .i64 i, .int .i64 h]] W fun e W' => e = .returned (.bool true) ∧ St1 w OF ⟨n, i, h⟩ [⟨⟨n, i, h⟩, 0⟩] W') := Lib.hid fun W hs => (qs_put_new (c := ⟨n, i, h⟩) hs.qs hm hn).mono fun e W' ⟨he, hq, hk⟩ => ⟨he, hs.mk' hq hk⟩
    have HPO : Hid (∀ W, St1 w OF ⟨n, i, h⟩ [⟨⟨n, i, h⟩, 0⟩] W → Calls Try.prog 14 #[.pointer (some ⟨w.heap.size + 1, 0, none⟩), .agg #[.int .i64 n, .int .i64 i, .int .i64 h]] W fun e W' => e = .returned (.bool false) ∧ St1 w OF ⟨n, i, h⟩ [⟨⟨n, i, h⟩, 0⟩] W') := Lib.hid fun W hs => (qs_put_one (d := ⟨n, i, h⟩) hs.qs hm hn rfl).mono fun e W' ⟨he, hq, hk⟩ => by
      have h0 : 0 ≤ cmpK ⟨n, i, h⟩ ⟨n, i, h⟩ := by unfold cmpK; rw [cmpC_self]; omega
      rw [if_pos h0] at hq
      exact ⟨by rw [he]; simp [h0], hs.mk' hq hk⟩
    have HT1 : Hid (∀ (j : Nat) W, St1 w OF ⟨n, i, h⟩ [⟨⟨n, i, h⟩, j⟩] W → Calls Try.prog 12 #[.pointer (some ⟨w.heap.size + 1, 0, none⟩), .int .i64 3] W fun e W' => ∃ p cap, e = .returned (.slice p 1 cap) ∧ St1 w OF ⟨n, i, h⟩ (oneBack OF ⟨n, i, h⟩ (j + 1)) W') := Lib.hid fun j W hs => (qs_take_one hs.qs 3 (by decide)).mono fun e W' ⟨p, cap, he, hq, hk⟩ => ⟨p, cap, he, hs.mk' hq hk⟩
    have HT0 : Hid (∀ W, St1 w OF ⟨n, i, h⟩ [] W → Calls Try.prog 12 #[.pointer (some ⟨w.heap.size + 1, 0, none⟩), .int .i64 3] W fun e W' => ∃ p cap, e = .returned (.slice p 0 cap) ∧ St1 w OF ⟨n, i, h⟩ [] W') := Lib.hid fun W hs => (qs_take_none hs.qs 3).mono fun e W' ⟨p, cap, he, hq, hk⟩ => ⟨p, cap, he, hs.mk' hq hk⟩
    have HH : Hid (∀ (j : Nat) W, St1 w OF ⟨n, i, h⟩ [⟨⟨n, i, h⟩, j⟩] W → Gives Try.prog 17 #[.pointer (some ⟨w.heap.size + 1, 0, none⟩), .int .i64 n] W (.tuple #[.agg #[.int .i64 n, .int .i64 i, .int .i64 h], .int .i64 j, .bool true])) := Lib.hid fun j W hs => (qs_has hs.qs n).cast (by simp [hasOf, hasV, Cl.val])
    have HL : Hid (∀ R W, St1 w OF ⟨n, i, h⟩ R W → Gives Try.prog 16 #[.pointer (some ⟨w.heap.size + 1, 0, none⟩)] W (.int .i64 R.length)) := Lib.hid fun R W hs => qs_len hs.qs
    clear hbad hm hn
    go_wp2_with fail
    refine (HPN.out _ HS1.out).mono ?_
    rintro e w2 ⟨rfl, hs2⟩
    have HS2 := Lib.hid hs2
    clear hs2 c0 c1 c2 HS1
    go_wp2_with fail
    go_loopw [27] (fun v27 wr => ∃ k : Nat, k ≤ 2 ∧ v27 = .int .i64 k ∧ St1 w OF ⟨n, i, h⟩ [⟨⟨n, i, h⟩, 0⟩] wr) (fun v27 _ => 2 - (intOf v27).toNat)
    case atStart => exact ⟨0, by omega, rfl, HS2.out⟩
    case round =>
      clear HS2
      obtain ⟨k, hk, rfl, hs⟩ := hrel
      have HS := Lib.hid hs
      clear hs
      by_cases hk2 : k < 2
      · have hkd : decide ((k : Int) < 2) = true := by simp; omega
        go_wp2_with fail
        go_loopw [30] (fun v30 wz => ∃ j : Nat, j ≤ OF ∧ v30 = .int .i64 j ∧ St1 w OF ⟨n, i, h⟩ (oneBack OF ⟨n, i, h⟩ j) wz) (fun v30 _ => OF - (intOf v30).toNat)
        case atStart => exact ⟨0, by omega, rfl, by have := HS.out; unfold oneBack; rw [if_pos (by omega)]; exact this⟩
        case round =>
          obtain ⟨j, hj, rfl, hs⟩ := hrel
          have HZ := Lib.hid hs
          obtain ⟨c0, c1, c2, hl1⟩ := hs.cells
          dsimp only at c0 c1 c2
          clear hs
          by_cases hjo : j < OF
          · have hone : oneBack OF ⟨n, i, h⟩ j = [⟨⟨n, i, h⟩, j⟩] := by unfold oneBack; rw [if_pos hjo]
            rw [hone] at HZ
            clear hone
            go_wp2_with fail
            refine Gives.mono' (HH.out _ _ HZ.out) ?_
            intro x1
            go_wp2_with fail
            have HZ1 := Lib.hid ((HZ.out.later x1).later ⟨x1.w.alloc (.cells #[.int .i64 n, .int .i64 i, .int .i64 h] 28), ext_alloc (ext_refl _) _⟩)
            dsimp only at HZ1
            refine (HT1.out _ _ HZ1.out).mono ?_
            rintro e w3 ⟨p, cap, rfl, hs3⟩
            have HS3 := Lib.hid hs3
            clear hs3
            go_wp2_with fail
            go_roundw
            case rel =>
              exact ⟨j + 1, by omega, by go_num, HS3.out⟩
            case measure => simp [intOf]; omega
          · obtain rfl : j = OF := by omega
            have hone : oneBack j ⟨n, i, h⟩ j = [] := by unfold oneBack; rw [if_neg (by omega)]
            rw [hone] at HZ
            have HL0 := Lib.hid (HL.out _ _ HZ.out)
            simp only [List.length_nil] at HL0
            clear hone c0 c1 c2
            go_wp2_with fail
            refine Gives.mono' HL0.out ?_
            intro x1
            go_wp2_with fail
            have HZ1 := Lib.hid (HZ.out.later x1)
            refine (HT0.out _ HZ1.out).mono ?_
            rintro e w3 ⟨p, cap, rfl, hs3⟩
            have HS3 := Lib.hid hs3
            obtain ⟨c0, c1, c2, hl3⟩ := hs3.cells
            dsimp only at c0 c1 c2
            clear hs3
            go_wp2_with fail
            refine (HPN.out _ HS3.out).mono ?_
            rintro e w4 ⟨rfl, hs4⟩
            have HS4 := Lib.hid hs4
            clear c0 c1 c2
            obtain ⟨c0, c1, c2, hl4⟩ := hs4.cells
            dsimp only at c0 c1 c2
            clear hs4
            go_wp2_with fail
            refine (HPO.out _ HS4.out).mono ?_
            rintro e w5 ⟨rfl, hs5⟩
            have HS5 := Lib.hid hs5
            clear hs5
            go_wp2_with fail
            go_roundw
            case rel => exact ⟨k + 1, by omega, by go_num, HS5.out⟩
            case measure => simp [intOf]; omega
      · obtain rfl : k = 2 := by omega
        have HL1 := Lib.hid (HL.out _ _ HS.out)
        simp only [List.length_cons, List.length_nil] at HL1
        go_wp2_with fail
        refine Gives.mono' HL1.out ?_
        intro x1
        go_wp2_with fail
        refine Gives.on (HA.out _) ?_
        intro x3
        go_wp2_with fail
        go_ret
        exact ⟨rfl, Later.ex (below_later HS.out.qs.below HS.out.qs.below.size x3)⟩
end Go.Proofs.Ytlcmehighgmoeaa
